import PyProof.Rows.All
import Wide.All
import OpenK.AllK
import Wide.FinOn
import HandS.Base
import HandS.Call
import HandS.List
import HandS.Comp
import HandS.Ends
import HandS.Iter
import HandS.Text
import HandS.Words
import HandS.WordsList
import HandS.IsInst
import HandS.More
import HandS.Wide
import HandS.Style
import HandS.EndBits
import HandS.Exc
import HandS.ExcOwn
import HandS.ExcInit
import HandS.ExcField
import HandS.TryOnly
import HandS.WordsExc
import HandS.FStr
import HandS.Defaults
import HandS.Lambda
import HandS.EndTab
import HandS.Dict
import HandS.Conv
import HandS.Zip
import HandS.MakeKwOnly
import HandS.Deep
import KE.DatumOrd
import HandS.Rev
import PyProof.Rows.RowBridgeK
import HandS.SetFor
import HandS.Walk
import HandS.TupAny
import KE.GoesZip
import KE.GoesMore
import KE.GoesEnum
import HandS.SlotsOwn
import HandS.DictSub
import PyProof.Conv_bool
import KE.KDictZip
import KE.KDictItemsList
import HandS.EndOwn
import PySem.Challenge.RW_warbleline_k34_whole_wires_learnt
set_option Elab.async false
set_option linter.all false
set_option maxRecDepth 100000
set_option maxHeartbeats 2000000
namespace WB
open PySem PySem.Spec PyProof.Rows L2
/-! ### a def that may be called by its name, letting nothing out -/
def Cal (P : Program) (w : World) (K : PySem.W.Frag) (mg : Str → Option Value) (base : Heap) (k : Nat) (nm : Str) (ps : List Str) (sp : Sp) : Prop :=
  ∃ (f : Addr) (fd : FuncData), FnOk P w K mg base CX0 k f fd ps sp ∧ mg nm = some (.ref f) ∧ PySem.W.keepIn K (.ref f) = true ∧ Binds K fd ps []
theorem Cal.mono {P : Program} {w : World} {K : PySem.W.Frag} {mg : Str → Option Value} {base : Heap} {j k : Nat} {nm : Str} {ps : List Str} {sp : Sp} (c : Cal P w K mg base j nm ps sp) (h : j ≤ k) : Cal P w K mg base k nm ps sp := by
  obtain ⟨f, fd, a, b, d, e⟩ := c
  exact ⟨f, fd, a.mono h, b, d, e⟩
section
variable {X : Cx} {k : Nat} {nm : Str} {ps : List Str} {sp : Sp} {e : Expr} {es : List Expr} {t : TA} {p pos : Pos}
theorem pe_callC (c : Cal X.prog X.w X.K X.mg X.base k nm ps sp) (hr : Room k X.A) (hg : Gl X nm) (ha : PA X (e :: es) t) (hdb : (nm == ("__debug__" : Str)) = false := by decide)
    (he : starEach (e :: es) X.env = (false, eval e X.env) :: starEach es X.env := by rfl) (hpl : (backTo pos (starEach es X.env)).any (·.1) = false := by rfl) :
    PE X (.Call (.Name nm p) (e :: es) [] pos) (tCall sp [] E0 t) := by
  obtain ⟨f, fd, a, b, d, g⟩ := c
  exact pe_call a hr hg b d g .nil pass0 ha hdb he hpl
theorem pe_callC0 (c : Cal X.prog X.w X.K X.mg X.base k nm ps sp) (hr : Room k X.A) (hg : Gl X nm) (hdb : (nm == ("__debug__" : Str)) = false := by decide) :
    PE X (.Call (.Name nm p) [] [] pos) (tCall sp [] E0 tNil) := by
  obtain ⟨f, fd, a, b, d, g⟩ := c
  exact pe_call0 a hr hg b d g .nil pass0 hdb
end
/-! ### rules with the written part by its name (a comprehension's block has the same one) -/
section
variable {X : Cx} (K : PySem.W.Frag)
theorem ix_listK (h : X.K = K) : IxR X (rIxL K) := by subst h; exact ix_list
theorem ix_tupK (h : X.K = K) : IxR X (rIxT K) := by subst h; exact ix_tup
theorem ix_seqK (h : X.K = K) : IxR X (rIx K) := by subst h; exact ix_seq
def rLenK (K : PySem.W.Frag) : List V → Hp → VK → Prop := fun xs H Q => ∃ p ys, xs = [.ref p] ∧ (SqL K H p ys ∨ SqT K H p ys) ∧ Q (.int ys.length) H
theorem call_lenK (h : X.K = K) : CallR X (.builtin "len") (rLenK K) := by subst h; exact call_len_seq
def rListK (K : PySem.W.Frag) : List V → Hp → VK → Prop := fun xs H Q => ∃ p ys, xs = [.ref p] ∧ (SqL K H p ys ∨ SqT K H p ys) ∧ ∀ l, H l = none → Q (.ref l) (upd H l (.lst ys))
theorem call_listK (h : X.K = K) : CallR X (.type "list") (rListK K) := by subst h; exact call_list_of
theorem call_isiK1 (h : X.K = K) : CallR X (.builtin "isinstance") (rIsi K) := by subst h; exact call_isi
theorem call_isiTK (h : X.K = K) : CallR X (.builtin "isinstance") (rIsiT K) := by subst h; exact call_isiT
theorem op_inK (h : X.K = K) : OpR X (compareOp .In) (rIn K false) := by subst h; exact op_in_seq
theorem op_notInK (h : X.K = K) : OpR X (compareOp .NotIn) (rIn K true) := by subst h; exact op_notIn_seq
theorem op_eqDK (h : X.K = K) (hu : X.A.units + 64 < cLine) : OpR X (compareOp .Eq) (rEqD K) := by subst h; exact op_eqD hu
theorem op_neDK (h : X.K = K) (hu : X.A.units + 64 < cLine) : OpR X (compareOp .NotEq) (rNeD K) := by subst h; exact op_neD hu
theorem sl_listK (h : X.K = K) : SlR X (rSlL K) := by subst h; exact sl_list
theorem cr_allK (h : X.K = K) (hc : X.calm = true) : CallR X (.builtin "all") (rAll K) := by subst h; exact cr_all hc
variable {o e : Expr} {es : List Expr} {to : TE} {t : TA} {name : Str} {apos cpos : Pos} {T id : String} {r : V → List V → Hp → VK → Prop}
theorem pe_bm0K (h : X.K = K) (pa : PlainAttrs T) (slot : Slot T name id) (hty : typeOf (.builtin id) = pure (.type "method_descriptor")) (hm : MtR X id r) (ho : PE X o to)
    (hbase : attributeBase o name X.env (eval o X.env) = eval o X.env := by rfl) (hline : (apos.endLine == cpos.line) = true := by rfl) : PE X (.Call (.Attribute o name apos) [] [] cpos) (tBM0 K T r to) := by
  subst h; exact pe_bm0 pa slot hty hm ho hbase hline
theorem pe_bmK (h : X.K = K) (pa : PlainAttrs T) (slot : Slot T name id) (hty : typeOf (.builtin id) = pure (.type "method_descriptor")) (hm : MtR X id r) (ho : PE X o to) (ha : PA X (e :: es) t)
    (hbase : attributeBase o name X.env (eval o X.env) = eval o X.env := by rfl)
    (hfew : ((backTo cpos (starEach (e :: es) X.env)).all (fun x => !x.1) && (backToKw cpos (keywordEach [] X.env)).all (fun x => x.1.isSome)
      && decide ((e :: es).length + ([] : List Keyword).length + (if ([] : List Keyword).isEmpty then 0 else 1) < 30)) = true := by rfl)
    (hline : (apos.endLine == cpos.line) = true := by rfl) (hs : starEach (e :: es) X.env = (false, eval e X.env) :: starEach es X.env := by rfl) (hplain : (backTo cpos (starEach es X.env)).any (·.1) = false := by rfl) :
    PE X (.Call (.Attribute o name apos) (e :: es) [] cpos) (tBM K T r to t) := by
  subst h; exact pe_bm pa slot hty hm ho ha hbase hfew hline hs hplain
variable {tg l : Expr} {tl : TE}
theorem pi_listK (h : X.K = K) (hl : PE X l tl) : PI X tg l (iList K tl) := by subst h; exact pi_list hl
theorem pi_tupK (h : X.K = K) (hl : PE X l tl) : PI X tg l (iTup K tl) := by subst h; exact pi_tup hl
end
/-- behind a statement: what its ways have in common -/
theorem seq_by {t u : TS} {D : Ends} {σ : L2.St} {H : Hp} (J : L2.St → Hp → Prop) (h2 : ∀ σ1 H1, J σ1 H1 → u D σ1 H1) (h1 : (∀ σ1 H1, J σ1 H1 → u D σ1 H1) → t { D with nx := u D } σ H) : tSeq t u D σ H := h1 h2
theorem if_by {c : TT} {t1 t2 u : TS} {D : Ends} {σ : L2.St} {H : Hp} (J : L2.St → Hp → Prop) (h2 : ∀ σ1 H1, J σ1 H1 → u D σ1 H1) (h1 : (∀ σ1 H1, J σ1 H1 → u D σ1 H1) → tIfS c t1 t2 { D with nx := u D } σ H) : tSeq (tIfS c t1 t2) u D σ H := h1 h2
theorem asg_by {te : TE} {i : Nat} {u : TS} {D : Ends} {σ : L2.St} {H : Hp} (J : V → Hp → Prop) (h2 : ∀ v H1, J v H1 → u D (σ.set i (some v)) H1) (h1 : (∀ v H1, J v H1 → u D (σ.set i (some v)) H1) → te σ H (fun x H1 => gName i x σ H1 (u D))) : tSeq (tAsg te (gName i)) u D σ H := h1 h2
theorem name_by {i : Nat} {v : V} {σ : L2.St} {H : Hp} {Q : L2.St → Hp → Prop} (h : Q (σ.set i (some v)) H) : gName i v σ H Q := h
/-! ### heaps -/
theorem same_upd {H : Hp} {p : Addr} {o : HO} (h : H p = none) : Same H (upd H p o) := fun b x e => by
  rw [upd_ne (ne_of_none e h)]
  exact e
/-- an object that was not there ahead may change -/
theorem same_mut {H H' : Hp} {p : Addr} {o : HO} (e : Same H H') (h : H p = none) : Same H (upd H' p o) := fun b x q => by
  rw [upd_ne (ne_of_none q h)]
  exact e b x q
/-- all but what stands at b stays -/
def Mv (b : Addr) (H H' : Hp) : Prop := ∀ a o, a ≠ b → H a = some o → H' a = some o
theorem Mv.refl (b : Addr) (H : Hp) : Mv b H H := fun _ _ _ h => h
theorem Mv.trans {b : Addr} {H H1 H2 : Hp} (x : Mv b H H1) (y : Mv b H1 H2) : Mv b H H2 := fun a o n h => y a o n (x a o n h)
theorem Mv.of {b : Addr} {H H' : Hp} (s : Same H H') : Mv b H H' := fun a o _ h => s a o h
theorem Mv.upd {b : Addr} {H H' : Hp} {o : HO} (x : Mv b H H') : Mv b H (upd H' b o) := fun a u n h => by
  rw [upd_ne n]
  exact x a u n h
theorem Mv.none {b p : Addr} {H H' : Hp} (x : Mv b H H') (n : p ≠ b) (h : H' p = none) : H p = none := by
  cases q : H p with
  | none => rfl
  | some o =>
    rw [x p o n q] at h
    cases h
/-! ### the bag: b.1 the bag, b.2 its numbers -/
def bagL (s : Addr) (i r x c : Int) : List V := [.ref s, .int i, .int r, .int x, .int c]
def Bag (b : Addr × Addr) (H : Hp) : Prop := ∃ (ns : List Int) (i r x c : Int), H b.1 = some (.lst (bagL b.2 i r x c)) ∧ H b.2 = some (.lst (ns.map V.int)) ∧ b.2 ≠ b.1 ∧ 0 ≤ i ∧ 0 ≤ x ∧ x < 2147483648
theorem Bag.same {b : Addr × Addr} {H H' : Hp} (g : Bag b H) (s : Same H H') : Bag b H' := by
  obtain ⟨ns, i, r, x, c, h1, h2, h3, h4, h5, h6⟩ := g
  exact ⟨ns, i, r, x, c, s _ _ h1, s _ _ h2, h3, h4, h5, h6⟩
theorem Bag.ne {b : Addr × Addr} {p : Addr} {H : Hp} (g : Bag b H) (h : H p = none) : p ≠ b.1 := by
  obtain ⟨ns, i, r, x, c, h1, _⟩ := g
  exact fun z => by rw [z, h1] at h; cases h
theorem Bag.ne2 {b : Addr × Addr} {p : Addr} {H : Hp} (g : Bag b H) (h : H p = none) : p ≠ b.2 := by
  obtain ⟨ns, i, r, x, c, _, h1, _⟩ := g
  exact fun z => by rw [z, h1] at h; cases h
theorem Bag.upd {b : Addr × Addr} {p : Addr} {o : HO} {H : Hp} (g : Bag b H) (h1 : p ≠ b.1) (h2 : p ≠ b.2) : Bag b (L2.upd H p o) := by
  obtain ⟨ns, i, r, x, c, e1, e2, h3⟩ := g
  exact ⟨ns, i, r, x, c, by rw [upd_ne h1.symm]; exact e1, by rw [upd_ne h2.symm]; exact e2, h3⟩
/-- a draw: its bag, its bound -/
def spPick : Sp := fun vs H Q _ => ∃ (b : Addr × Addr) (top : Int), vs = [.ref b.1, .int top] ∧ Bag b H ∧ 0 < top ∧ top < 1073741824 ∧ ∀ (H' : Hp) (d : Int), Mv b.1 H H' → Bag b H' → 0 ≤ d → d < top → Q (.int d) H'
/-- the bag of a script -/
def spBag (K : PySem.W.Frag) : Sp := fun vs H Q _ => ∃ (a : Addr) (ns : List Int), vs = [.ref a] ∧ SqL K H a (ns.map V.int) ∧ ∀ (H' : Hp) (b : Addr × Addr), Same H H' → H b.1 = none → Bag b H' → Q (.ref b.1) H'
/-- one of the list's things -/
def spOf (K : PySem.W.Frag) : Sp := fun vs H Q _ => ∃ (b : Addr × Addr) (l : Addr) (xs : List V), vs = [.ref b.1, .ref l] ∧ Bag b H ∧ l ≠ b.1 ∧ H l = some (.lst xs) ∧ 0 < xs.length ∧ xs.length < 1000 ∧ ∀ (H' : Hp) (v : V), Mv b.1 H H' → Bag b H' → v ∈ xs → Q v H'
section
variable {K : PySem.W.Frag}
def tyN : PyData → String
  | .none => "NoneType"
  | .bool _ => "bool"
  | .int _ => "int"
  | .str _ => "str"
  | .list _ => "list"
  | .tuple _ => "tuple"
  | .dict _ => "dict"
theorem ty_dp {H : Hp} {x : V} {d : PyData} (h : Dp K H x d) : TyX K H x (.type (tyN d)) := by
  cases h with
  | non => exact .base .non
  | bl b => exact .base (.bl b)
  | int i => exact .base (.int i)
  | str x => exact .base (.str x)
  | lst hs _ =>
    rcases hs with (h | ⟨o, h⟩) | ⟨o, its, n, h1, h2, _⟩
    · exact .base (.lst h)
    · exact .base (.frz h)
    · exact .kList h1 h2
  | tup hs _ =>
    rcases hs with (h | ⟨o, h⟩) | ⟨o, its, n, h1, h2, _⟩
    · exact .base (.tup h)
    · exact .fTuple h
    · exact .kTuple h1 h2
theorem same_t {H H' : Hp} {a : Addr} {xs : List V} (e : Same H H') (h : SqT K H a xs) : SqT K H' a xs := by
  rcases h with (h | ⟨o, h⟩) | h
  · exact .inl (.inl (e _ _ h))
  · exact .inl (.inr ⟨o, e _ _ h⟩)
  · exact .inr h
mutual
theorem dp_same {H H' : Hp} (e : Same H H') : ∀ {d : PyData} {x : V}, Dp K H x d → Dp K H' x d
  | _, _, .non => .non
  | _, _, .bl b => .bl b
  | _, _, .int i => .int i
  | _, _, .str s => .str s
  | _, _, .lst hs ha => .lst (e.seq hs) (dpa_same e ha)
  | _, _, .tup hs ha => .tup (same_t e hs) (dpa_same e ha)
theorem dpa_same {H H' : Hp} (e : Same H H') : ∀ {ds : List PyData} {xs : List V}, DpAll K H xs ds → DpAll K H' xs ds
  | _, _, .nil => .nil
  | _, _, .cons h t => .cons (dp_same e h) (dpa_same e t)
end
theorem dpa_len {H : Hp} : ∀ {xs : List V} {ds : List PyData}, DpAll K H xs ds → xs.length = ds.length
  | _, _, .nil => rfl
  | _, _, .cons _ t => congrArg (· + 1) (dpa_len t)
theorem dpa_get {H : Hp} : ∀ {xs : List V} {ds : List PyData} {i : Nat} {d : PyData}, DpAll K H xs ds → ds[i]? = some d → ∃ x, xs[i]? = some x ∧ Dp K H x d
  | _, _, _, _, .nil, e => by simp at e
  | _, _, 0, _, .cons h _, e => by simp at e; subst e; exact ⟨_, rfl, h⟩
  | _, _, i + 1, d, .cons _ t, e => by
    obtain ⟨x, h1, h2⟩ := dpa_get (i := i) (d := d) t (by simpa using e)
    exact ⟨x, by simpa using h1, h2⟩
/-- data of at most so many levels -/
def Dn : Nat → PyData → Prop
  | 0, _ => False
  | n + 1, d => (∃ b, d = .bool b) ∨ (∃ i, d = .int i) ∨ (∃ s, d = .str s) ∨ d = .none ∨ ∃ ds, (d = .list ds ∨ d = .tuple ds) ∧ ds.length ≤ 100000 ∧ ∀ e ∈ ds, Dn n e
def spSame (K : PySem.W.Frag) (n : Nat) : Sp := fun vs H Q _ => ∃ (x y : V) (d : PyData), vs = [x, y] ∧ Dp K H x d ∧ Dp K H y d ∧ Dn n d ∧ SeqAt.shaped d = true ∧ ∀ H', Same H H' → Q (.bl true) H'
theorem tYes_by {σ : L2.St} {H : Hp} {Q : Bool → Hp → Prop} (h : Q true H) : tYes σ H Q := h
theorem canLay_mem : ∀ {ds : List PyData} {e : PyData}, e ∈ ds → PyData.canLayAll0 ds = true → PyData.canLay0 e = true
  | d :: ds, e, hm, h => by
    have h : (PyData.canLay0 d && PyData.canLayAll0 ds) = true := h
    rw [Bool.and_eq_true] at h
    rcases List.mem_cons.mp hm with rfl | hm
    · exact h.1
    · exact canLay_mem hm h.2
theorem depth_mem : ∀ {ds : List PyData} {e : PyData}, e ∈ ds → PyData.depth e ≤ PyData.depthAll ds
  | d :: ds, e, hm => by
    show _ ≤ max (PyData.depth d) (PyData.depthAll ds)
    rcases List.mem_cons.mp hm with rfl | hm
    · exact Nat.le_max_left _ _
    · exact Nat.le_trans (depth_mem hm) (Nat.le_max_right _ _)
theorem shaped_mem {ds : List PyData} {e : PyData} (hm : e ∈ ds) (h : SeqAt.shaped (.list ds) = true ∨ SeqAt.shaped (.tuple ds) = true) : SeqAt.shaped e = true := by
  have k : PyData.canLayAll0 ds = true ∧ PyData.depthAll ds + 1 ≤ 64 := by
    rcases h with h | h
    · exact ⟨SeqAt.canLay_of_shaped h, SeqAt.depth_of_shaped h⟩
    · exact ⟨SeqAt.canLay_of_shaped h, SeqAt.depth_of_shaped h⟩
  unfold SeqAt.shaped
  rw [Bool.and_eq_true]
  exact ⟨canLay_mem hm k.1, decide_eq_true (by have := depth_mem hm; omega)⟩
theorem ifT {A B : Prop} {b : Bool} (e : b = true) (h : A) : if b = true then A else B := by rw [if_pos e]; exact h
theorem ifF {A B : Prop} {b : Bool} (e : b = false) (h : B) : if b = true then A else B := by rw [e]; exact iteF h
end
end WB
namespace WB
open PySem PySem.Spec PyProof.Rows L2
section
variable {K : PySem.W.Frag}
theorem for_enumK {a : Addr} {xs : List V} {g : TG} {tb : TS} {D : Ends} {σ : L2.St} {H : Hp} (Pv : Nat → L2.St → Hp → Prop) (h0 : Pv 0 σ H) (hl : ∀ i σ H, i ≤ xs.length → Pv i σ H → SqL K H a xs)
    (hs : ∀ i x T σ H, xs[i]? = some x → Pv i σ H → H T = none → g (.ref T) σ (upd H T (.tup [.int (i : Nat), x])) fun σ2 H2 => tb { D with nx := Pv (i + 1), ct := Pv (i + 1), bk := D.nx } σ2 H2) (hd : ∀ σ H, Pv xs.length σ H → D.nx σ H) :
    ∃ W : Nat → Nat → L2.St → Hp → Prop, (∃ m, W 0 m σ H) ∧ ∀ i m σ H, W i m σ H →
      ((Ite K a).stop i H ∧ D.nx σ H) ∨ ((Ite K a).go i H ∧ ∃ N : L2.St → Hp → Prop, (∀ σ' H', N σ' H' → ∃ m', m' < m ∧ W (i + 1) m' σ' H') ∧ ∀ x H', (Ite K a).yld i H x H' → g x σ H' fun σ2 H2 => tb { D with nx := N, ct := N, bk := D.nx } σ2 H2) := by
  refine ⟨fun i m σ H => m = xs.length - i ∧ i ≤ xs.length ∧ Pv i σ H, ⟨xs.length, by simp, Nat.zero_le _, h0⟩, ?_⟩
  rintro i m σ H ⟨rfl, hi, p⟩
  have q := hl i σ H hi p
  by_cases hlt : i < xs.length
  · refine .inr ⟨⟨xs, xs[i], q, by simp [hlt]⟩, Pv (i + 1), fun σ' H' p' => ⟨xs.length - (i + 1), by omega, rfl, hlt, p'⟩, fun x H' y => ?_⟩
    obtain ⟨T, z, rfl, nT, rfl, y⟩ := y
    exact hs i z T σ H (y xs q) p nT
  · have e : i = xs.length := by omega
    subst e
    exact .inl ⟨⟨xs, q, Nat.le_refl _⟩, hd σ H p⟩
end
/-! ### bits, numbers in bits, seals: the mathematics -/
def Bits (ns : List Int) : Prop := ∀ z ∈ ns, z = 0 ∨ z = 1
/-- a number in so many bits, the one of greatest worth first -/
def wr : Nat → Int → List Int
  | 0, _ => []
  | i + 1, n => ((n / 2 ^ i) % 2) :: wr i n
theorem wr_len : ∀ (i : Nat) (n : Int), (wr i n).length = i
  | 0, _ => rfl
  | i + 1, n => congrArg (· + 1) (wr_len i n)
theorem wr_bits : ∀ (i : Nat) (n : Int), Bits (wr i n)
  | 0, _ => fun z h => nomatch h
  | i + 1, n => fun z h => by
    rcases List.mem_cons.mp h with rfl | h
    · omega
    · exact wr_bits i n z h
theorem half (n : Int) (i : Nat) : n / 2 ^ i / 2 = n / 2 ^ (i + 1) := by
  rw [Int.pow_succ, Int.ediv_ediv_of_nonneg (by exact Int.pow_nonneg (by decide))]
/-- the register: one more bit -/
def stepR (c : Nat) (b : Int) : Nat := if ((c / 32768 : Nat) : Int) = b then c * 2 % 65536 else (c * 2 % 65536) ^^^ 4129
theorem stepR_lt (c : Nat) (b : Int) : stepR c b < 65536 := by
  unfold stepR
  have h : c * 2 % 65536 < 65536 := Nat.mod_lt _ (by decide)
  split
  · exact h
  · exact Nat.xor_lt_two_pow (n := 16) h (by decide)
def regs (bs : List Int) : Nat := bs.foldl stepR 65535
theorem regs_lt (bs : List Int) : regs bs < 65536 := by
  have : ∀ (l : List Int) (c : Nat), c < 65536 → l.foldl stepR c < 65536 := by
    intro l
    induction l with
    | nil => exact fun c h => h
    | cons b r ih => exact fun c _ => ih _ (stepR_lt c b)
  exact this bs 65535 (by decide)
def sealL (bs : List Int) : List Int := wr 16 (regs bs : Nat)
theorem take_more {α : Type} {l : List α} {i : Nat} {x : α} (h : l[i]? = some x) : l.take (i + 1) = l.take i ++ [x] := by
  rw [List.take_add_one, h]
  rfl
theorem regs_more {bs : List Int} {i : Nat} {b : Int} (h : bs[i]? = some b) : regs (bs.take (i + 1)) = stepR (regs (bs.take i)) b := by
  unfold regs
  rw [take_more h, List.foldl_append]
  rfl
theorem wr_at (c : Nat) (i : Nat) : ((c : Int) / 2 ^ i) % 2 = if c.testBit i then 1 else 0 := by
  have e : ((c : Int) / 2 ^ i) % 2 = ((c / 2 ^ i % 2 : Nat) : Int) := by
    rw [Int.natCast_emod, Int.natCast_ediv, Int.natCast_pow]
    rfl
  rw [e, Nat.testBit_eq_decide_div_mod_eq]
  have h : c / 2 ^ i % 2 < 2 := Nat.mod_lt _ (by decide)
  by_cases h1 : c / 2 ^ i % 2 = 1
  · rw [h1]; rfl
  · have h0 : c / 2 ^ i % 2 = 0 := by omega
    rw [h0]; rfl
def holdsB (ns : List Int) : Bool := decide (16 ≤ ns.length) && decide (sealL (ns.take (ns.length - 16)) = ns.drop (ns.length - 16))
theorem wr_shift (c : Nat) : wr 16 ((c * 2 % 65536 : Nat) : Int) = (wr 16 (c : Int)).drop 1 ++ [0] := by
  have e : ((c * 2 % 65536 : Nat) : Int) = (c : Int) * 2 % 65536 := by rw [Int.natCast_emod, Int.natCast_mul]; rfl
  rw [e]
  generalize (c : Int) = z
  simp only [wr, List.drop, List.cons_append, List.nil_append, List.cons.injEq, and_true]
  refine ⟨?_, ?_, ?_, ?_, ?_, ?_, ?_, ?_, ?_, ?_, ?_, ?_, ?_, ?_, ?_, ?_⟩ <;> omega
def fl (M : List Int) (k : Nat) : List Int := M.set k (1 - M.getD k 0)
theorem wr_flip (a : Nat) : wr 16 ((a ^^^ 4129 : Nat) : Int) = fl (fl (fl (wr 16 (a : Int)) 3) 10) 15 := by
  simp only [wr, wr_at, Nat.testBit_xor, fl]
  simp only [List.set, List.getD, List.getElem?_cons_succ, List.getElem?_cons_zero, Option.getD]
  have h : ∀ i : Nat, (if ((a.testBit i) ^^ true) = true then (1 : Int) else 0) = 1 - (if a.testBit i = true then 1 else 0) := by
    intro i
    cases a.testBit i <;> rfl
  have t0 : (4129 : Nat).testBit 0 = true := by decide
  have t5 : (4129 : Nat).testBit 5 = true := by decide
  have t12 : (4129 : Nat).testBit 12 = true := by decide
  have n1 : (4129 : Nat).testBit 1 = false := by decide
  have n2 : (4129 : Nat).testBit 2 = false := by decide
  have n3 : (4129 : Nat).testBit 3 = false := by decide
  have n4 : (4129 : Nat).testBit 4 = false := by decide
  have n6 : (4129 : Nat).testBit 6 = false := by decide
  have n7 : (4129 : Nat).testBit 7 = false := by decide
  have n8 : (4129 : Nat).testBit 8 = false := by decide
  have n9 : (4129 : Nat).testBit 9 = false := by decide
  have n10 : (4129 : Nat).testBit 10 = false := by decide
  have n11 : (4129 : Nat).testBit 11 = false := by decide
  have n13 : (4129 : Nat).testBit 13 = false := by decide
  have n14 : (4129 : Nat).testBit 14 = false := by decide
  have n15 : (4129 : Nat).testBit 15 = false := by decide
  simp only [t0, t5, t12, n1, n2, n3, n4, n6, n7, n8, n9, n10, n11, n13, n14, n15, Bool.xor_false, h]
/-- data of ints -/
def dI (ns : List Int) : PyData := .list (ns.map PyData.int)
theorem dpa_ints {K : PySem.W.Frag} {H : Hp} : ∀ ns : List Int, DpAll K H (ns.map V.int) (ns.map PyData.int)
  | [] => .nil
  | n :: r => .cons (.int n) (dpa_ints r)
theorem dp_ints {K : PySem.W.Frag} {H : Hp} {a : Addr} {ns : List Int} (h : SqL K H a (ns.map V.int)) : Dp K H (.ref a) (dI ns) := .lst h (dpa_ints ns)
theorem depth_ints : ∀ ns : List Int, PyData.depthAll (ns.map PyData.int) = 0
  | [] => rfl
  | n :: r => by
    show max 0 (PyData.depthAll (r.map PyData.int)) = 0
    rw [depth_ints r]
    rfl
theorem canLay_ints : ∀ ns : List Int, PyData.canLayAll0 (ns.map PyData.int) = true
  | [] => rfl
  | n :: r => by
    show (true && PyData.canLayAll0 (r.map PyData.int)) = true
    rw [canLay_ints r]
    rfl
theorem shaped_ints (ns : List Int) : SeqAt.shaped (dI ns) = true := by
  unfold SeqAt.shaped
  rw [Bool.and_eq_true]
  refine ⟨canLay_ints ns, decide_eq_true ?_⟩
  show PyData.depthAll (ns.map PyData.int) + 1 ≤ 64
  rw [depth_ints]
  decide
theorem eqv_ints (ns ms : List Int) : PyData.eqv (dI ns) (dI ms) = decide (ns = ms) := by
  have : ∀ (ns ms : List Int), PyData.eqvAll (ns.map PyData.int) (ms.map PyData.int) = decide (ns = ms) := by
    intro ns
    induction ns with
    | nil =>
      intro ms
      cases ms with
      | nil => rfl
      | cons m r => rfl
    | cons n r ih =>
      intro ms
      cases ms with
      | nil => rfl
      | cons m t =>
        show (PyData.eqv (.int n) (.int m) && PyData.eqvAll (r.map PyData.int) (t.map PyData.int)) = _
        rw [ih t]
        show ((n == m) && decide (r = t)) = _
        rw [show (n == m) = decide (n = m) from by rw [Bool.beq_eq_decide_eq], ← Bool.decide_and]
        exact decide_eq_decide.mpr ⟨fun h => by rw [h.1, h.2], fun h => List.cons.inj h⟩
  exact this ns ms
/-! ### what a law knows of the heap: the bag at b, and these -/
structure SH (b : Addr × Addr) (H : Hp) (L : List (Addr × HO)) : Prop where
  bag : Bag b H
  nb : ∀ p ∈ L, p.1 ≠ b.1 ∧ p.1 ≠ b.2
  kn : ∀ p ∈ L, H p.1 = some p.2
section
variable {b : Addr × Addr} {p : Addr} {H H' : Hp} {L L' : List (Addr × HO)} {o o' : HO}
theorem SH.same (h : SH b H L) (s : Same H H') : SH b H' L := ⟨h.bag.same s, h.nb, fun q hq => s _ _ (h.kn q hq)⟩
theorem SH.mv (h : SH b H L) (m : Mv b.1 H H') (g : Bag b H') : SH b H' L := ⟨g, h.nb, fun q hq => m _ _ (h.nb q hq).1 (h.kn q hq)⟩
theorem SH.add (h : SH b H L) (n : p ≠ b.1) (n2 : p ≠ b.2) (e : H p = some o) : SH b H ((p, o) :: L) :=
  ⟨h.bag, fun q hq => (List.mem_cons.mp hq).elim (fun z => by rw [z]; exact ⟨n, n2⟩) (h.nb q), fun q hq => (List.mem_cons.mp hq).elim (fun z => by rw [z]; exact e) (h.kn q)⟩
theorem SH.new (h : SH b H L) (n : H p = none) : SH b (upd H p o) ((p, o) :: L) := (h.same (same_upd n)).add (h.bag.ne n) (h.bag.ne2 n) upd_same
theorem SH.newS (h : SH b H L) (s : Same H H') (n : H p = none) (e : H' p = some o) : SH b H' ((p, o) :: L) := (h.same s).add (h.bag.ne n) (h.bag.ne2 n) e
theorem SH.newM (h : SH b H L) (m : Mv b.1 H H') (g : Bag b H') (n : H p = none) (e : H' p = some o) : SH b H' ((p, o) :: L) := (h.mv m g).add (h.bag.ne n) (h.bag.ne2 n) e
theorem SH.sub (h : SH b H L) (hs : ∀ q ∈ L', q ∈ L) : SH b H L' := ⟨h.bag, fun q hq => h.nb q (hs q hq), fun q hq => h.kn q (hs q hq)⟩
theorem SH.get (h : SH b H L) (hm : (p, o) ∈ L) : H p = some o := h.kn _ hm
theorem SH.ne (h : SH b H L) (hm : (p, o) ∈ L) : p ≠ b.1 := (h.nb _ hm).1
/-- the first of them is written; the others stand elsewhere -/
theorem SH.put (h : SH b H ((p, o) :: L)) (hd : ∀ q ∈ L, q.1 ≠ p) : SH b (upd H p o') ((p, o') :: L) :=
  ⟨h.bag.upd (h.nb _ (.head _)).1 (h.nb _ (.head _)).2, fun q hq => (List.mem_cons.mp hq).elim (fun z => by rw [z]; exact h.nb (p, o) (.head L)) (fun hq => h.nb q (.tail _ hq)),
    fun q hq => (List.mem_cons.mp hq).elim (fun z => by rw [z]; exact upd_same) (fun hq => by rw [upd_ne (hd q hq)]; exact h.kn q (.tail _ hq))⟩
theorem SH.apart (h : SH b H L) (n : H p = none) : ∀ q ∈ L, q.1 ≠ p := fun q hq => ne_of_none (h.kn q hq) n
theorem SH.nil (g : Bag b H) : SH b H [] := ⟨g, (fun _ h => absurd h List.not_mem_nil), (fun _ h => absurd h List.not_mem_nil)⟩
end
theorem bits_nil : Bits [] := fun _ h => nomatch h
theorem bits_app {a c : List Int} (h : Bits a) (h' : Bits c) : Bits (a ++ c) := fun z hz => (List.mem_append.mp hz).elim (h z) (h' z)
theorem bits_one {z : Int} (h : z = 0 ∨ z = 1) : Bits [z] := fun y hy => by rw [List.mem_singleton.mp hy]; exact h
theorem bits_take {a : List Int} (h : Bits a) (n : Nat) : Bits (a.take n) := fun z hz => h z (List.mem_of_mem_take hz)
theorem bits_drop {a : List Int} (h : Bits a) (n : Nat) : Bits (a.drop n) := fun z hz => h z (List.mem_of_mem_drop hz)
theorem seal_bits (ns : List Int) : Bits (sealL ns) := wr_bits _ _
theorem seal_len (ns : List Int) : (sealL ns).length = 16 := wr_len _ _
theorem cut_to_n (xs : List V) (n : Nat) : cutV xs none (some (n : Int)) = xs.take n := by
  unfold cutV
  rw [HT.sIx_none, HT.sIx_nat, List.drop_zero, Nat.sub_zero]
  by_cases h : n ≤ xs.length
  · rw [Nat.min_eq_left h]
  · rw [Nat.min_eq_right (by omega), List.take_of_length_le (Nat.le_refl _), List.take_of_length_le (by omega)]
theorem cut_from_n (xs : List V) (n : Nat) : cutV xs (some (n : Int)) none = xs.drop n := by
  unfold cutV
  rw [HT.sIx_none, HT.sIx_nat]
  by_cases h : n ≤ xs.length
  · rw [Nat.min_eq_left h]
    exact List.take_of_length_le (by simp)
  · rw [Nat.min_eq_right (by omega), List.drop_of_length_le (Nat.le_refl _), List.drop_of_length_le (by omega)]
    exact List.take_nil
theorem sIx_back (l d n : Nat) (h : 0 < n) : HT.sIx l d (some (-(n : Int))) = l - n := by
  show (if -(n : Int) < 0 then (-(n : Int) + (l : Int)).toNat else min (-(n : Int)).toNat l) = l - n
  rw [if_pos (by omega)]
  omega
theorem cut_to_b (xs : List V) (n : Nat) (h : 0 < n) : cutV xs none (some (-(n : Int))) = xs.take (xs.length - n) := by
  unfold cutV
  rw [HT.sIx_none, sIx_back _ _ n h, List.drop_zero, Nat.sub_zero]
theorem cut_from_b (xs : List V) (n : Nat) (h : 0 < n) : cutV xs (some (-(n : Int))) none = xs.drop (xs.length - n) := by
  unfold cutV
  rw [HT.sIx_none, sIx_back _ _ n h]
  exact List.take_of_length_le (by simp)
theorem sz4 {n : Nat} (h : n ≤ 100000) : n ≤ sizeLine := Nat.le_trans h (by decide)
theorem sz4l {n : Nat} (h : n < 100000) : n < sizeLine := Nat.lt_of_lt_of_le h (by decide)
theorem holds_sealed {ns : List Int} : holdsB (ns ++ sealL ns) = true := by
  unfold holdsB
  have l : (ns ++ sealL ns).length = ns.length + 16 := by rw [List.length_append, seal_len]
  rw [l, Nat.add_sub_cancel, List.take_left, List.drop_left]
  simp
theorem holds_short {ns : List Int} (h : ns.length < 16) : holdsB ns = false := by
  unfold holdsB
  rw [decide_eq_false (by omega), Bool.false_and]
theorem inV_ints (z : Int) : ∀ ks : List Int, inV (.int z) (ks.map V.int) = decide (z ∈ ks)
  | [] => rfl
  | k :: r => by
    show ((k == z) || inV (.int z) (r.map V.int)) = _
    rw [inV_ints z r]
    by_cases h : z = k
    · subst h
      simp
    · have h2 : (k == z) = false := by simpa using fun e => h e.symm
      rw [h2, Bool.false_or]
      exact decide_eq_decide.mpr ⟨fun hm => .tail _ hm, fun hm => (List.mem_cons.mp hm).elim (fun e => absurd e h) (fun e => e)⟩
def isB (b : Int) : Prop := b = 0 ∨ b = 1
theorem bits_cons {b : Int} {r : List Int} (h : Bits (b :: r)) : isB b ∧ Bits r := ⟨h b (.head _), fun z hz => h z (.tail _ hz)⟩
theorem getI {ns : List Int} {i : Nat} {y : V} (h : (ns.map V.int)[i]? = some y) : ∃ z, ns[i]? = some z ∧ y = V.int z := by
  rw [List.getElem?_map] at h
  cases e : ns[i]? with
  | none => rw [e] at h; cases h
  | some z => rw [e] at h; exact ⟨z, rfl, (Option.some.inj h).symm⟩
end WB
namespace WB
open PySem PySem.Spec PyProof.Rows L2
/-! ### a class's own function, called by the class: C.m(e, ..) -/
structure ClsFn (K : PySem.W.Frag) (mg : Str → Option Value) (x m : Str) (C f : Addr) : Prop where
  gC : mg x = some (.ref C)
  sg : PySem.W.specialIn K (.ref C) "__getattribute__" = some (some (.builtin "type.__getattribute__"))
  ty : PySem.W.typeIn K (.ref C) = some (.type "type")
  rd : PySem.W.readsIn K C (.type "type") = true
  fc : PySem.W.findCls K (.ref C) (.type "type") m = some (.val (.ref f))
  hd : PySem.W.handedIn (.ref f) = true
  kp : PySem.W.keepIn K (.ref f) = true
section
variable {X : Cx} {CX : CXT} {k : Nat} {f C : Addr} {fd : FuncData} {ps : List Str} {sp : Sp} {E : XK} {x m : Str} {p1 p2 pos : Pos} {e : Expr} {es : List Expr} {t : TA}
theorem pe_clsfn {pl : Sem Bool} (T : ClsFn X.K X.mg x m C f) (F : FnOk X.prog X.w X.K X.mg X.base CX k f fd ps sp) (hr : Room k X.A) (hb : Binds X.K fd ps []) (hx : Passes CX X E) (hg : Gl X x) (ha : PA X (e :: es) t)
    (hc : eval (.Call (.Attribute (.Name x p1) m p2) (e :: es) [] pos) X.env = (do
      let ov ← eval (.Name x p1) X.env
      standAt p2.atName
      let (f, first) ← holding [ov] (getMethod ov m pl)
      callWith pos f first (backTo pos (starEach (e :: es) X.env)) (backToKw pos (keywordEach [] X.env))) := by rfl)
    (hdb : (x == ("__debug__" : Str)) = false := by decide) (he : starEach (e :: es) X.env = (false, eval e X.env) :: starEach es X.env := by rfl) (hpl : (backTo pos (starEach es X.env)).any (·.1) = false := by rfl) :
    PE X (.Call (.Attribute (.Name x p1) m p2) (e :: es) [] pos) (tCall sp [] E t) := by
  refine ⟨fun pins s σ H Q I h => ?_⟩
  refine PySem.W.methodCall_KW (ld_glob I hg T.gC ?_ hdb) hc
  obtain ⟨mm, fr⟩ := I.fr
  refine PySem.W.method_of_cls fr I.ok.mod.kin T.sg (PySem.W.cls_val fr I.ok.mod.kin T.ty T.rd T.fc T.hd ?_)
  show wpAny _ _ (callWith pos (Value.ref f) [] (backTo pos (starEach (e :: es) X.env)) []) _ _ _
  refine PySem.W.callWith_K (h₀ := X.base) I.ok.mod.kin T.kp (thn (ha.run pos pins _ σ H _ (I.tok _) h) fun us s1 ⟨vs, H1, I1, r, q⟩ => ⟨I1.kIn, ?_⟩) he hpl
  exact run_fn F hr hb .nil hx I1 r q
end
/-! ### own exceptions -/
/-- LineError.__init__ -/
def spLE (K : PySem.W.Frag) : Sp := fun vs H Q _ => ∃ (a C : Addr) (w t : V), vs = [.ref a, w, t] ∧ OexC K C ∧ PySem.W.findIn K (.ref C) "word" = some none ∧ H a = some (exo a C none) ∧
  ∀ d, H d = none → d ≠ a → Q .non (upd (upd H d (exd d [(("word" : Str), w)])) a (exo a C (some d)))
/-- a class below it, its name, its field -/
def spIni (K : PySem.W.Frag) (C : Addr) (nm fld : Str) : Sp := fun vs H Q _ => ∃ (a : Addr) (i : Int), vs = [.ref a, .int i] ∧ i.natAbs.log2 < 1000 ∧ H a = some (exo a C none) ∧
  ∀ d, H d = none → d ≠ a → Q .non (upd (upd (upd H d (exd d [(("word" : Str), .str nm)])) a (exo a C (some d))) d (exd d [(fld, .int i), (("word" : Str), .str nm)]))
def XcOk (P : Program) (w : World) (K : PySem.W.Frag) (mg : Str → Option Value) (base : Heap) (k : Nat) (nm : Str) (C : Addr) (sp : Sp) : Prop :=
  ∃ (fI : Addr) (fd : FuncData) (ps : List Str), OexC K C ∧ PySem.W.findIn K (.ref C) "__init__" = some (some (.ref fI)) ∧ PySem.W.typeIn K (.ref fI) = some (.type "function") ∧ FnOk P w K mg base CX0 k fI fd ps sp ∧ Binds K fd ps [] ∧ mg nm = some (.ref C)
theorem XcOk.mono {P : Program} {w : World} {K : PySem.W.Frag} {mg : Str → Option Value} {base : Heap} {j k : Nat} {nm : Str} {C : Addr} {sp : Sp} (x : XcOk P w K mg base j nm C sp) (h : j ≤ k) : XcOk P w K mg base k nm C sp := by
  obtain ⟨fI, fd, ps, a, b, c, d, e⟩ := x
  exact ⟨fI, fd, ps, a, b, c, d.mono h, e⟩
section
variable {X : Cx} {k : Nat} {nm : Str} {C : Addr} {sp : Sp} {e : Expr} {es : List Expr} {ta : TA} {p pos : Pos}
theorem pmk_c (x : XcOk X.prog X.w X.K X.mg X.base k nm C sp) (hr : Room (k + 1) X.A) (hg : Gl X nm) (ha : PA X (e :: es) ta) (hdb : (nm == ("__debug__" : Str)) = false := by decide)
    (he : starEach (e :: es) X.env = (false, eval e X.env) :: starEach es X.env := by rfl) (hpl : (backTo pos (starEach es X.env)).any (·.1) = false := by rfl) : PMk X (.Call (.Name nm p) (e :: es) [] pos) (tMkO C sp [] ta) := by
  obtain ⟨fI, fd, ps, a, b, c, d, e1, g⟩ := x
  exact pmk_oex a b c d hr e1 .nil pass0 hg g ha hdb he hpl
end
theorem mk_inner {K : PySem.W.Frag} {C : Addr} {nm fld : Str} {i : Int} {H1 : Hp} {Q : XK} (hi : i.natAbs.log2 < 1000)
    (q : ∀ H' d, Same H1 H' → H1 d = none → H' d = some (.xd [(fld, .int i), (("word" : Str), .str nm)]) → Q (.ref C) (some d) H') :
    ([V.int i] : List V).length ≤ 1000 ∧ ∀ a, H1 a = none → spIni K C nm fld (.ref a :: ([V.int i] ++ [])) (upd H1 a (exo a C none))
      (fun v H2 => v = .non ∧ ∃ (d : Addr) (fs : List (Str × V)), H2 a = some (exo a C (some d)) ∧ H2 d = some (exd d fs) ∧ H1 d = none ∧ Q (.ref C) (some d) (upd (del H2 a) d (.xd fs))) (fun _ _ _ => False) := by
  refine ⟨by show 1 ≤ 1000; decide, fun a na => ⟨a, i, rfl, hi, upd_same, fun d nd da => ⟨rfl, d, [(fld, .int i), (("word" : Str), .str nm)], ?_, upd_same, ?_, ?_⟩⟩⟩
  · rw [upd_ne da.symm, upd_same]
  · rw [upd_ne da] at nd
    exact nd
  · rw [upd_ne da] at nd
    refine q _ d (fun b o h => ?_) nd upd_same
    have hb : b ≠ d := ne_of_none h nd
    have hba : b ≠ a := ne_of_none h na
    rw [upd_ne hb, del_ne hba, upd_ne hb, upd_ne hba, upd_ne hb, upd_ne hba]
    exact h
/-! ### defs that may let an exception out -/
def CalX (P : Program) (w : World) (K : PySem.W.Frag) (mg : Str → Option Value) (base : Heap) (k : Nat) (nm : Str) (ps : List Str) (sp : Sp) : Prop :=
  ∃ (f : Addr) (fd : FuncData), FnOk P w K mg base (L2.CX P w) k f fd ps sp ∧ mg nm = some (.ref f) ∧ PySem.W.keepIn K (.ref f) = true ∧ Binds K fd ps []
theorem CalX.mono {P : Program} {w : World} {K : PySem.W.Frag} {mg : Str → Option Value} {base : Heap} {j k : Nat} {nm : Str} {ps : List Str} {sp : Sp} (c : CalX P w K mg base j nm ps sp) (h : j ≤ k) : CalX P w K mg base k nm ps sp := by
  obtain ⟨f, fd, a, b, d, e⟩ := c
  exact ⟨f, fd, a.mono h, b, d, e⟩
section
variable {X : Cx} {k : Nat} {nm : Str} {ps : List Str} {sp : Sp} {E : XK} {e : Expr} {es : List Expr} {t : TA} {p pos : Pos}
/-- where it lets nothing out -/
theorem pe_callF (c : CalX X.prog X.w X.K X.mg X.base k nm ps sp) (hr : Room k X.A) (hg : Gl X nm) (ha : PA X (e :: es) t) (hdb : (nm == ("__debug__" : Str)) = false := by decide)
    (he : starEach (e :: es) X.env = (false, eval e X.env) :: starEach es X.env := by rfl) (hpl : (backTo pos (starEach es X.env)).any (·.1) = false := by rfl) :
    PE X (.Call (.Name nm p) (e :: es) [] pos) (tCall sp [] E0 t) := by
  obtain ⟨f, fd, a, b, d, g⟩ := c
  exact pe_call a hr hg b d g .nil passL ha hdb he hpl
/-- where what it lets out is taken -/
theorem pe_callP (c : CalX X.prog X.w X.K X.mg X.base k nm ps sp) (hr : Room k X.A) (hx : Passes (L2.CX X.prog X.w) X E) (hg : Gl X nm) (ha : PA X (e :: es) t) (hdb : (nm == ("__debug__" : Str)) = false := by decide)
    (he : starEach (e :: es) X.env = (false, eval e X.env) :: starEach es X.env := by rfl) (hpl : (backTo pos (starEach es X.env)).any (·.1) = false := by rfl) :
    PE X (.Call (.Name nm p) (e :: es) [] pos) (tCall sp [] E t) := by
  obtain ⟨f, fd, a, b, d, g⟩ := c
  exact pe_call a hr hg b d g .nil hx ha hdb he hpl
end
theorem txt_fits {z : Str} {i : Int} (hz : z.length ≤ 1000) (hi : i.natAbs.log2 < 1000) : (z ++ Str.ofString (toString i)).length ≤ sizeLine := by
  have e := PySem.int_text_length_le (k := 1000) (a := i) (by decide) hi
  rw [PySem.Str.length_append, PySem.ofString_length, PySem.sizeLine_eq]
  omega
/-! ### several clauses, each with the name n (slot i) -/
def asEnds (i : Nat) (D : Ends) : Ends := ⟨fun σ' H' => D.nx (σ'.set i none) H', D.rt, fun σ' H' => D.bk (σ'.set i none) H', fun σ' H' => D.ct (σ'.set i none) H'⟩
def wManyA (K : PySem.W.Frag) (i : Nat) (Wo : WX) (D : Ends) : List (Value × (Addr → Value → Option Addr → TS)) → WX
  | [] => Wo
  | (c, ts) :: r => fun cls d σ H => ∃ b, PySem.W.exmOne K cls c = some b ∧ (b = true → ∀ a, H a = none → ts a cls d (asEnds i D) (σ.set i (some (.ref a))) H) ∧ (b = false → wManyA K i Wo D r cls d σ H)
inductive HdsA (X : Cx) (n : Str) : List ExceptHandler → List (Value × (Addr → Value → Option Addr → TS)) → Prop
  | nil : HdsA X n [] []
  | cons {x : Str} {c : Value} {ts : Addr → Value → Option Addr → TS} {st : Stmt} {sts : List Stmt} {q1 q2 : Pos} {hs : List ExceptHandler} {l : List (Value × (Addr → Value → Option Addr → TS))} (hc : Names X x c)
      (hsu : ∀ (a : Addr) (oe : Obj) (cls : Value) (d : Option Addr) (pn : List (Addr × Obj)), Zc cls d oe → (∃ vs, oe.data = .fields vs) → PSs (X.suite a ((a, oe) :: pn)) (st :: sts) (ts a cls d)) (r : HdsA X n hs l) :
      HdsA X n (.ExceptHandler (some (.Name x q1)) (some n) (st :: sts) q2 :: hs) ((c, ts) :: l)
section
variable {X : Cx} {n : Str} {i : Nat} {bd : List Stmt} {h0 : ExceptHandler} {hs : List ExceptHandler} {l : List (Value × (Addr → Value → Option Addr → TS))} {pos : Pos} {tb : WX → TS} {Wo : WX}
theorem ps_try_manyA (hst : X.stack = X.env :: X.outer) (hfm : X.env.frame = some X.env.locals) (hnd : X.N.Nodup) (hni : X.N[i]? = some n) (hnl : X.env.kindOf n = some .local) (tk : Takes X Wo)
    (hb : ∀ (W : WX) (pn : List (Addr × Obj)) (xe : Value → Shared → Prop), Takes (X.tr pn xe) W → PassesOwn (model X.prog X.w) X.A X.env xe → PSs (X.tr pn xe) bd (tb W))
    (hh : HdsA X n (h0 :: hs) l) : PS X (.Try bd (h0 :: hs) [] [] pos) (fun D σ H => tb (wManyA X.K i Wo D l) D σ H) := by
  refine ⟨fun pins s σ H D I hw => ?_⟩
  have kk := I.ok
  have hfr2 : X.A.frames = some (X.env :: X.outer) := kk.frames.trans (congrArg some hst)
  have hlo : Loc X.env.scope n := Or.inl hnl
  refine wpAny_Try_except (wpAny_mono ((hb (wManyA X.K i Wo D l) (X.pn ++ pins) (fun e z1 => wpAny (model X.prog X.w) X.A (noteFrame e X.env) (fun _ z2 => wpAny (model X.prog X.w) X.A (setFlight e none) (fun _ z3 =>
    wpAny (model X.prog X.w) X.A (handleBy e X.env (h0 :: hs)) (SP X pins D) X.xe z3) X.xe z2) X.xe z1) (fun u z' xx => ?_) PassesOwn.looking).run [] s σ H D (I.toTry _) hw) (fun fl z1 hsp => ?_) (fun _ _ y => y))
  · obtain ⟨a, B, sI, pins', τ, G, cls, d, rfl, J', nb, up, sky, na, hos, hag, wch⟩ := xx
    have J : Inv X pins τ G sI := J'.ofTry kk
    have sky2 : Sky B (X.env :: X.outer) a (Zc cls d) X.env.locals z'.heap := hst ▸ sky
    refine Sky.land Zc.steady hfr2 hfm sky2 fun g3 fl3 up3 => ?_
    have J3 : Inv X pins τ G { z' with heap := g3 } := J.landed nb fl3.1 (up.trans up3) hos hag
    obtain ⟨o3, v3, he3, hz3, hd3⟩ := fl3.there
    have nin : a ∉ frs (X.env :: X.outer) := fun hm => by
      obtain ⟨_, o', e', hnf⟩ := fl3.2.2.1.mem hm
      rw [he3] at e'; cases e'; exact hnf _ hd3
    have nL : a ≠ X.env.locals := fun y => nin (List.mem_filterMap.mpr ⟨X.env, List.mem_cons_self, hfm.trans (congrArg some y.symm)⟩)
    have nF : a ∉ X.fs := fun hm => by
      obtain ⟨e, he, y⟩ := List.mem_filterMap.mp hm
      exact nin (List.mem_filterMap.mpr ⟨e, List.mem_cons_of_mem _ he, y⟩)
    have S3 := J3.suite he3 hd3 na nL nF
    have go : ∀ {hs' : List ExceptHandler} {l' : List (Value × (Addr → Value → Option Addr → TS))}, HdsA X n hs' l' → wManyA X.K i Wo D l' cls d τ G → wpAny (model X.prog X.w) X.A (handleBy (.ref a) X.env hs') (SP X pins D) X.xe { z' with heap := g3 } := by
      intro hs' l' hk
      induction hk with
      | nil =>
        intro wch
        obtain ⟨k1, k2, k3, oe, vs, T, oT, ts', he, hz, hd, h1, hr⟩ := id fl3
        refine wpAny_handleBy_nil ?_
        unfold PySem.passOn
        refine wpAny_bind (wpAny_field he hd h1 ?_)
        have fin : wpAny (model X.prog X.w) X.A (setFlight (.ref a) X.env.frame) (fun _ z4 => wpAny (model X.prog X.w) X.A (throw (.ref a) : Sem Flow) (SP X pins D) X.xe z4) X.xe { z' with heap := g3 } := by
          rw [hfm]
          exact HandSPX.setFlight_upZ fl3 fun h4 hh4 up4 => wpAny_throw (tk _ _ ⟨a, B, sI, pins, τ, G, cls, d, rfl, J, nb, (up.trans up3).trans up4, .inr (.inr (hst ▸ hh4)), na, hos, hag, wch⟩)
        rw [if_neg (by simp : ¬ ((Value.ref T == Value.none) = true))]
        first | exact wpAny_bind (wpAny_pure (wpAny_bind fin)) | exact wpAny_bind fin
      | @cons x c ts st sts q1 q2 hs2 l2 hc hsu r ih =>
        intro wch
        obtain ⟨b, hb1, yes, no⟩ := wch
        refine wpAny_handleBy_cons (codeAny_handlers_test ?_) (fun y => by cases y)
        have LT : PySem.W.Looks (model X.prog X.w) g3 (typeOf (.ref a)) cls := fun A Q E s k q => wpAny_typeOf_ref (k _ _ he3) (hz3.1.symm ▸ q)
        have LM := PySem.W.exm_one (M := model X.prog X.w) J3.kIn LT hb1
        have tst : ∀ {Q : Value → Shared → Prop} {E : Value → Shared → Prop}, Q c { z' with heap := g3 } → wpAny (model X.prog X.w) (X.A.mark (some (.ref a))) (eval (.Name x q1) X.env) Q E { z' with heap := g3 } := fun {Q E} y => by
          rcases hc with ⟨hg, hdb, hm | ⟨hm, hv, hnn⟩⟩
          · exact ld_glob (X := X.suite a ((a, o3) :: (X.pn ++ pins))) S3 hg hm y hdb
          · exact ld_blt (X := X.suite a ((a, o3) :: (X.pn ++ pins))) S3 hg hm hv y hnn hdb
        refine tst (LM.here ?_)
        cases b with
        | false => exact ih (no rfl)
        | true =>
          refine codeAny_handlers_suite_as (HandSPX.lands_againZ fl3 fun g4 fl4 up4 => ?_)
          have J4 : Inv X pins τ G { z' with heap := g4 } := J.landed nb fl4.1 ((up.trans up3).trans up4) hos hag
          obtain ⟨o4, v4, he4, hz4, hd4⟩ := fl4.there
          refine store_ok (X := X.suite a ((a, o4) :: (X.pn ++ pins))) (v := .ref a) (J4.suite he4 hd4 na nL nF) hnd hni hlo rfl (fun s5 S5 => ?_) (.inr hnl)
          refine wpAny_mono ((hsu a o4 cls d (X.pn ++ pins) hz4 ⟨_, hd4⟩).run [] s5 _ G _ S5 (yes rfl a na)) (fun fl z6 hsp => ?_) (fun _ _ y => y.elim)
          have over : ∀ {τ6 : L2.St} {G6 : Hp} {R : Shared → Prop}, Inv (X.suite a ((a, o4) :: (X.pn ++ pins))) [] τ6 G6 z6 → (∀ z7, Inv X pins (τ6.set i none) G6 z7 → R z7) →
              wpAny (model X.prog X.w) X.A (do bindName X.env n .none; unbindBehindTheSuite X.env n q2) (fun _ z7 => R z7) X.xe z6 := fun S6 hq => gone_ok (S6.unsuite kk) hnd hni hnl hq
          cases fl with
          | next => obtain ⟨τ6, G6, S6, q6⟩ := hsp; exact over S6 fun z7 J7 => ⟨_, _, J7, q6⟩
          | brk => obtain ⟨τ6, G6, S6, q6⟩ := hsp; exact over S6 fun z7 J7 => ⟨_, _, J7, q6⟩
          | cont => obtain ⟨τ6, G6, S6, q6⟩ := hsp; exact over S6 fun z7 J7 => ⟨_, _, J7, q6⟩
          | ret u => obtain ⟨v6, τ6, G6, S6, r6, q6⟩ := hsp; exact over S6 fun z7 J7 => ⟨_, _, _, J7, r6, q6⟩
    exact go hh wch
  · cases fl with
    | next => obtain ⟨τ, G, J', q⟩ := hsp; exact wpAny_execs_nil ⟨τ, G, J'.ofTry kk, q⟩
    | brk => obtain ⟨τ, G, J', q⟩ := hsp; exact ⟨τ, G, J'.ofTry kk, q⟩
    | cont => obtain ⟨τ, G, J', q⟩ := hsp; exact ⟨τ, G, J'.ofTry kk, q⟩
    | ret u => obtain ⟨v, τ, G, J', r, q⟩ := hsp; exact ⟨v, τ, G, J'.ofTry kk, r, q⟩
end
/-! ### what a law with lambdas knows of the heap: the bag at b, the tables T, these lists -/
/-- all that is no list stays -/
def NL (H H' : Hp) : Prop := ∀ a o, H a = some o → (∀ xs, o ≠ .lst xs) → H' a = some o
theorem tabs_nl {T : List (Addr × Str)} {H H' : Hp} (t : LamX.Tabs T H) (h : NL H H') : LamX.Tabs T H' := fun p hp => by
  obtain ⟨ps, h1, h2, h3⟩ := t p hp
  refine ⟨ps, h _ _ h1 (fun xs z => by cases z), h2, fun pos cv hc => ?_⟩
  obtain ⟨c, e1, e2⟩ := h3 pos cv hc
  exact ⟨c, e1, h _ _ e2 (fun xs z => by unfold LamX.CodeO at z; cases z)⟩
structure ST (b : Addr × Addr) (T : List (Addr × Str)) (H : Hp) (L : List (Addr × List V)) : Prop where
  bag : Bag b H
  nb : ∀ p ∈ L, p.1 ≠ b.1 ∧ p.1 ≠ b.2
  kn : ∀ p ∈ L, H p.1 = some (.lst p.2)
  tab : LamX.Tabs T H
section
variable {b : Addr × Addr} {T : List (Addr × Str)} {p : Addr} {H H' : Hp} {L L' : List (Addr × List V)} {o o' : List V}
theorem ST.same (h : ST b T H L) (s : Same H H') : ST b T H' L := ⟨h.bag.same s, h.nb, fun q hq => s _ _ (h.kn q hq), h.tab.ext s⟩
theorem ST.mv (h : ST b T H L) (m : Mv b.1 H H') (g : Bag b H') : ST b T H' L := ⟨g, h.nb, fun q hq => m _ _ (h.nb q hq).1 (h.kn q hq), tabs_nl h.tab (fun a o e n => m a o (fun z => by
  obtain ⟨_, _, _, _, _, h1, _⟩ := h.bag
  rw [z, h1] at e
  exact n _ (Option.some.inj e).symm) e)⟩
theorem ST.add (h : ST b T H L) (n : p ≠ b.1) (n2 : p ≠ b.2) (e : H p = some (.lst o)) : ST b T H ((p, o) :: L) :=
  ⟨h.bag, fun q hq => (List.mem_cons.mp hq).elim (fun z => by rw [z]; exact ⟨n, n2⟩) (h.nb q), fun q hq => (List.mem_cons.mp hq).elim (fun z => by rw [z]; exact e) (h.kn q), h.tab⟩
theorem ST.new (h : ST b T H L) (n : H p = none) : ST b T (upd H p (.lst o)) ((p, o) :: L) := (h.same (same_upd n)).add (h.bag.ne n) (h.bag.ne2 n) upd_same
theorem ST.newS (h : ST b T H L) (s : Same H H') (n : H p = none) (e : H' p = some (.lst o)) : ST b T H' ((p, o) :: L) := (h.same s).add (h.bag.ne n) (h.bag.ne2 n) e
theorem ST.newM (h : ST b T H L) (m : Mv b.1 H H') (g : Bag b H') (n : H p = none) (e : H' p = some (.lst o)) : ST b T H' ((p, o) :: L) := (h.mv m g).add (h.bag.ne n) (h.bag.ne2 n) e
theorem ST.sub (h : ST b T H L) (hs : ∀ q ∈ L', q ∈ L) : ST b T H L' := ⟨h.bag, fun q hq => h.nb q (hs q hq), fun q hq => h.kn q (hs q hq), h.tab⟩
theorem ST.get (h : ST b T H L) (hm : (p, o) ∈ L) : H p = some (.lst o) := h.kn _ hm
theorem ST.ne (h : ST b T H L) (hm : (p, o) ∈ L) : p ≠ b.1 := (h.nb _ hm).1
theorem ST.put (h : ST b T H ((p, o) :: L)) (hd : ∀ q ∈ L, q.1 ≠ p) : ST b T (upd H p (.lst o')) ((p, o') :: L) :=
  ⟨h.bag.upd (h.nb _ (.head _)).1 (h.nb _ (.head _)).2, fun q hq => (List.mem_cons.mp hq).elim (fun z => by rw [z]; exact h.nb (p, o) (.head L)) (fun hq => h.nb q (.tail _ hq)),
    fun q hq => (List.mem_cons.mp hq).elim (fun z => by rw [z]; exact upd_same) (fun hq => by rw [upd_ne (hd q hq)]; exact h.kn q (.tail _ hq)), tabs_nl h.tab (fun a u e n => by
      have e2 := h.kn (p, o) (.head _)
      rw [upd_ne (fun z => by rw [z, e2] at e; exact n _ (Option.some.inj e).symm)]
      exact e)⟩
theorem ST.apart (h : ST b T H L) (n : H p = none) : ∀ q ∈ L, q.1 ≠ p := fun q hq => ne_of_none (h.kn q hq) n
theorem ST.nil (g : Bag b H) (t : LamX.Tabs T H) : ST b T H [] := ⟨g, (fun _ h => absurd h List.not_mem_nil), (fun _ h => absurd h List.not_mem_nil), t⟩
theorem ST.extN (h : ST b T H L) (e : LamX.ExtN H H') (t : LamX.Tabs T H') : ST b T H' L := by
  refine ⟨?_, h.nb, fun q hq => e _ _ (h.kn q hq) (fun ps z => by cases z), t⟩
  obtain ⟨ns, i, r, x, c, h1, h2, h3⟩ := h.bag
  exact ⟨ns, i, r, x, c, e _ _ h1 (fun ps z => by cases z), e _ _ h2 (fun ps z => by cases z), h3⟩
end
/-! ### takes, where the slots are as many as the names -/
theorem takes_len {X : Cx} {W : WX} (tk : Takes X W) : Takes X (fun cls d σ H => σ.length = X.N.length → W cls d σ H) := fun u s' x => by
  obtain ⟨a, B, sI, pins, σ, H, cls, d, e, I, nb, up, sky, na, os, ag, w⟩ := x
  exact tk u s' ⟨a, B, sI, pins, σ, H, cls, d, e, I, nb, up, sky, na, os, ag, w I.len⟩
/-- what the law's at makes of a lambda that is refused by one of these classes -/
def TAt (cs : List (Addr × Str)) : (XK → Hp → VK → Prop) → Hp → VK → Prop := fun tl H Q =>
  tl (fun cls d H' => ∃ e ∈ cs, cls = .ref e.1 ∧ ∃ (dd : Addr) (v : V), d = some dd ∧ H' dd = some (.xd [(("at" : Str), v), (("word" : Str), .str e.2)]) ∧ ∀ p, H' p = none → Q (.ref p) (upd H' p (.lst [.str e.2, v]))) H (fun _ _ => False)
/-- a class of refusals with a place -/
structure AtC (K : PySem.W.Frag) (mg : Str → Option Value) (nm : Str) (C : Addr) : Prop where
  gC : mg nm = some (.ref C)
  xf : XfC K C
  no : PySem.W.findIn K (.ref C) "at" = some none
theorem set_get {σ : L2.St} {i : Nat} {v : Option V} (h : i < σ.length) : (σ.set i v)[i]? = some v := by
  rw [List.getElem?_set_self h]
/-! ### a law that hands lambdas to a def -/
def LamTo (X : Cx) (T : List (Addr × Str)) (nm : Str) (TT : (XK → Hp → VK → Prop) → Hp → VK → Prop) : Prop :=
  ∀ {params : Arguments} {body : Expr} {scope : Scope} {t : XK → TE} {p lpos pos : Pos} {k : Nat}, Room (k + 2) X.A → LamX.LamS X.env.scope scope → defaultsOf params X.env = ([], []) →
    (∀ (q : Str) (cl : List (Str × Addr)) (pm cv ctv : Value), bindArgs (PySem.W.kla_fn "<lambda>" q params body scope cl pm cv ctv) ⟨[], []⟩ = pure []) →
    (∀ (A : Around) (outer : List Env) (s : Shared) (H : Hp) (E : XK) (f c' : Addr), Room k (A.deeper (LamX.lamEnv X scope s.heap.objs.size f c')) → PE (LamX.lamCx X A outer s H E scope f c') body (t E)) →
    PE X (.Call (.Name nm p) [.Lambda params body scope lpos] [] pos) (LamX.tLam T TT t)
theorem okL {P : Program} {w : World} {K : PySem.W.Frag} {mg : Str → Option Value} {base : Heap} {x qual : Str} {st : Stmt} {f c : Addr} {N ps : List Str} {k : Nat} {sp : Sp} {oc : Value} {od an : Option Addr} {osl : Array (Option Value)} {kV doc pm ct : Value}
    (lk : K.lookup f = some ⟨oc, od, .func (PySem.W.fnOf x qual (defArgs st) (defBody st) (defScope st) .none kV doc pm an (.ref c) ct), osl⟩) (hcd : PySem.W.codeIn K (.ref c) qual = true) (S : FnScope N ps (defScope st)) (len : ∀ vs H Q E, sp vs H Q E → vs.length = ps.length)
    (hbody : ∀ (A : Around) (outer : List Env) (s : Shared) (H : Hp) (vs : List V) (Q : VK) (E : XK), Room k (A.deeper (envOfC qual (defScope st) s.heap.objs.size f (.ref c))) → sp vs H Q E →
      ∃ t, PSs (cxOf CX0 P w K mg base N qual (defScope st) f (.ref c) A outer s H E).nox (defBody st) t ∧ t { nx := fun _ H' => Q .non H', rt := Q } (L2.start N vs) H) :
    FnOk P w K mg base CX0 (k + 1) f (PySem.W.fnOf x qual (defArgs st) (defBody st) (defScope st) .none kV doc pm an (.ref c) ct) ps sp := by
  refine fn_of lk hcd S len fun A outer s H vs Q E hr hsp => ?_
  obtain ⟨t, h, q⟩ := hbody A outer s H vs Q E hr hsp
  exact ⟨t, h.nox, q⟩
/-! ### a class of refusals without a value -/
def spIni0 (K : PySem.W.Frag) (C : Addr) (nm : Str) : Sp := fun vs H Q _ => ∃ (a : Addr), vs = [.ref a] ∧ H a = some (exo a C none) ∧ ∀ d, H d = none → d ≠ a → Q .non (upd (upd H d (exd d [(("word" : Str), .str nm)])) a (exo a C (some d)))
section
variable {X : Cx} {k : Nat} {nm : Str} {C : Addr} {sp : Sp} {p pos : Pos}
theorem pmk_c0 (x : XcOk X.prog X.w X.K X.mg X.base k nm C sp) (hr : Room (k + 1) X.A) (hg : Gl X nm) (hdb : (nm == ("__debug__" : Str)) = false := by decide) : PMk X (.Call (.Name nm p) [] [] pos) (tMkO C sp [] tNil) := by
  obtain ⟨fI, fd, ps, T, iC, tI, F1, hb, hm⟩ := x
  intro pins s σ H Q I h
  obtain ⟨nm', q, N, bs, bm, sn, sub, ab, col, dd, k0, k1, k2, k3, k5, hC, hbm⟩ := T.cls
  refine wpAny_Call_Name_kw (ld_glob I hg hm ?_ hdb)
  refine PySem.W.callWith_K0 I.kIn T.kC ?_
  show wpAny _ _ (call (.ref C) []) _ _ _
  have q1 : ∀ a, H a = none → sp (.ref a :: ([] ++ [])) (upd H a (exo a C none)) _ _ := h.2
  obtain ⟨hp, g, dr, tk, os⟩ := s
  have hsz : hp.objs.size ≤ hp.objs.size + 1 := Nat.le_succ _
  have hq := q1 (hp.objs.size + 1) (I.hok.fresh hsz)
  have kk : ∀ b o, hp.get? b = some o → ((hp.push (PySem.W.kdv_tup [])).push (PySem.HandSPX.excO C hp.objs.size)).get? b = some o := fun b o e => Heap.get?_push_of_some _ (Heap.get?_push_of_some _ e)
  have hget : ((hp.push (PySem.W.kdv_tup [])).push (PySem.HandSPX.excO C hp.objs.size)).get? (hp.objs.size + 1) = some (PySem.HandSPX.excO C hp.objs.size) := by heap_get
  have I2 : Inv X pins σ (upd H (hp.objs.size + 1) (exo (hp.objs.size + 1) C none)) ⟨(hp.push (PySem.W.kdv_tup [])).push (PySem.HandSPX.excO C hp.objs.size), g, dr, tk, os⟩ :=
    I.laid (t' := tk) (a := hp.objs.size + 1) (o := exo (hp.objs.size + 1) C none) (h' := (hp.push (PySem.W.kdv_tup [])).push (PySem.HandSPX.excO C hp.objs.size)) kk hsz (exo_ok hget)
  have r2 : Vals [V.ref (hp.objs.size + 1)] [Value.ref (hp.objs.size + 1)] := .cons rfl .nil
  have hl : ([Value.ref (hp.objs.size + 1)] ++ []).length = ps.length := (F1.len _ _ _ _ hq)
  refine wpAny_call (PySem.HandSPX.call_own F.excBase_ValueError (fun Y => PySem.HandSPX.refsVE_contains Y bm hbm) (I.kIn _ _ hC) (PySem.W.looks_findIn I.kIn iC) (fun self => PySem.W.bind_fn I.kIn self tI) (Nat.zero_le _)
    (codeAny_mono (F1.run _ X.stack _ _ ⟨[Value.ref (hp.objs.size + 1)], []⟩ [Value.ref (hp.objs.size + 1)] _ _ (fun _ _ _ => False) (hr.make C [] []) (I2.env0.make C [] []) (hb _ [Value.ref (hp.objs.size + 1)] I2.kIn hl) r2 hq) fun r s' hq' => ?_))
  cases r with
  | error er => exact (show False from hq').elim
  | ok fl =>
    cases fl with
    | ret u =>
      obtain ⟨v, H2, os2, bare2, un2, hok2, rv, ev, d, fs, ea, ed, hd1, q2⟩ := hq'
      subst ev
      obtain ⟨h2, g2, d2, t2, os'⟩ := s'
      exact ⟨rv, mk_end (raises_own T.exC T.tyC) I hsz kk un2 hok2 os2 bare2 ea ed hd1 q2⟩
    | next => exact False.elim hq'
    | brk => exact False.elim hq'
    | cont => exact False.elim hq'
end
theorem mk_inner0 {K : PySem.W.Frag} {C : Addr} {nm : Str} {H1 : Hp} {Q : XK}
    (q : ∀ H' d, Same H1 H' → H1 d = none → H' d = some (.xd [(("word" : Str), .str nm)]) → Q (.ref C) (some d) H') :
    ([] : List V).length ≤ 1000 ∧ ∀ a, H1 a = none → spIni0 K C nm (.ref a :: (([] : List V) ++ [])) (upd H1 a (exo a C none))
      (fun v H2 => v = .non ∧ ∃ (d : Addr) (fs : List (Str × V)), H2 a = some (exo a C (some d)) ∧ H2 d = some (exd d fs) ∧ H1 d = none ∧ Q (.ref C) (some d) (upd (del H2 a) d (.xd fs))) (fun _ _ _ => False) := by
  refine ⟨Nat.zero_le _, fun a na => ⟨a, rfl, upd_same, fun d nd da => ⟨rfl, d, [(("word" : Str), .str nm)], upd_same, ?_, ?_, ?_⟩⟩⟩
  · rw [upd_ne da, upd_same]
  · rw [upd_ne da] at nd
    exact nd
  · rw [upd_ne da] at nd
    refine q _ d (fun b o h => ?_) nd upd_same
    have hb : b ≠ d := ne_of_none h nd
    have hba : b ≠ a := ne_of_none h na
    rw [upd_ne hb, del_ne hba, upd_ne hba, upd_ne hb, upd_ne hba]
    exact h
/-- what the law's tried makes of a lambda: told, or refused by the class at C, whose word it tells -/
def TTried (C : Addr) (nm : Str) : (XK → Hp → VK → Prop) → Hp → VK → Prop := fun tl H Q =>
  tl (fun cls d H' => cls = .ref C ∧ ∃ (dd : Addr) (fs : List (Str × V)), d = some dd ∧ H' dd = some (.xd fs) ∧ fs.lookup ("word" : Str) = some (.str nm) ∧ ∀ p, H' p = none → Q (.ref p) (upd H' p (.tup [.str "refused", .str nm]))) H
    (fun v H1 => ([V.str "told", v] : List V).length ≤ sizeLine ∧ ∀ p, H1 p = none → Q (.ref p) (upd H1 p (.tup [.str "told", v])))
/-! ### a def called by keywords alone -/
def gK {α : Type} (perm : List α → List α) : List α → List α → List α
  | [], ws => perm ws
  | _ :: _, _ => []
section
variable {X : Cx} {CX : CXT} {k : Nat} {f : Addr} {fd : FuncData} {ps ks : List Str} {sp : Sp} {E : XK} {x : Str} {p pos : Pos} {kws : List Keyword} {tk : TA} {g : List Value → List Value → List Value} {gV : List V → List V → List V}
theorem pe_callK0 (F : FnOk X.prog X.w X.K X.mg X.base CX k f fd ps sp) (hr : Room k X.A) (hg : Gl X x) (hm : X.mg x = some (.ref f)) (hk : PySem.W.keepIn X.K (.ref f) = true) (hb : KBinds X.K fd ps ks g gV) (hx : Passes CX X E) (hkw : PK X kws tk)
    (hall : ((backToKw pos (keywordEach kws X.env)).all fun x => x.1.isSome) = true := by rfl) (hks : (backToKw pos (keywordEach kws X.env)).filterMap (·.1) = ks := by rfl) (hdb : (x == ("__debug__" : Str)) = false := by decide)
    (hpl : ((backTo pos (starEach [] X.env)).any (·.1) || (backToKw pos (keywordEach kws X.env)).any fun x => x.1.isNone) = false := by rfl) : PE X (.Call (.Name x p) [] kws pos) (tCallK sp gV E tNil tk) := by
  refine ⟨fun pins s σ H Q I h => wpAny_Call_Name_kw (ld_glob I hg hm ?_ hdb)⟩
  refine PySem.W.callWith_KW0 (I.ok.mod.kin) hk hall (thn (hkw.run pos pins s σ H (fun zs H2 => sp (gV [] zs) H2 Q E) I h) fun ws s2 x => ?_) hpl
  obtain ⟨zs, H2, I2, rz, q2⟩ := x
  refine ⟨I2.kIn, ?_⟩
  rw [hks]
  exact run_fnk F hr hb hx I2 .nil rz q2
end
def CalK (P : Program) (w : World) (K : PySem.W.Frag) (mg : Str → Option Value) (base : Heap) (k : Nat) (nm : Str) (ps ks : List Str) (gV : List V → List V → List V) (sp : Sp) : Prop :=
  ∃ (f : Addr) (fd : FuncData) (g : List Value → List Value → List Value), FnOk P w K mg base (L2.CX P w) k f fd ps sp ∧ mg nm = some (.ref f) ∧ PySem.W.keepIn K (.ref f) = true ∧ KBinds K fd ps ks g gV
theorem CalK.mono {P : Program} {w : World} {K : PySem.W.Frag} {mg : Str → Option Value} {base : Heap} {j k : Nat} {nm : Str} {ps ks : List Str} {gV : List V → List V → List V} {sp : Sp} (c : CalK P w K mg base j nm ps ks gV sp) (h : j ≤ k) : CalK P w K mg base k nm ps ks gV sp := by
  obtain ⟨f, fd, g, a, b, d, e⟩ := c
  exact ⟨f, fd, g, a.mono h, b, d, e⟩
section
variable {X : Cx} {k : Nat} {ps ks : List Str} {sp : Sp} {nm : Str} {p pos : Pos} {kws : List Keyword} {tk : TA} {gV : List V → List V → List V}
theorem pe_callKF (c : CalK X.prog X.w X.K X.mg X.base k nm ps ks gV sp) (hr : Room k X.A) (hg : Gl X nm) (hkw : PK X kws tk)
    (hall : ((backToKw pos (keywordEach kws X.env)).all fun x => x.1.isSome) = true := by rfl) (hks : (backToKw pos (keywordEach kws X.env)).filterMap (·.1) = ks := by rfl) (hdb : (nm == ("__debug__" : Str)) = false := by decide)
    (hpl : ((backTo pos (starEach [] X.env)).any (·.1) || (backToKw pos (keywordEach kws X.env)).any fun x => x.1.isNone) = false := by rfl) : PE X (.Call (.Name nm p) [] kws pos) (tCallK sp gV E0 tNil tk) := by
  obtain ⟨f, fd, g, a, b, d, e⟩ := c
  exact pe_callK0 a hr hg b d e passL hkw hall hks hdb hpl
end
def two {α : Type} : List α → List α
  | [a, b] => [b, a]
  | _ => []
theorem kb_one {K : PySem.W.Frag} {x qual y : Str} {st : Stmt} {f : Addr} {fd : FuncData} (F : Fun K x qual st f fd) (h : ∀ (kV doc pm : Value) (an : Option Addr) (cdv ct : Value) (u : Value), bindArgs (PySem.W.fnOf x qual (defArgs st) (defBody st) (defScope st) .none kV doc pm an cdv ct) ⟨[], [(y, u)]⟩ = pure [(y, u)]) :
    KBinds K fd [y] [y] (gK id) (gK id) := by
  refine ⟨fun s us ws X hl M A E Q q => ?_, fun {vs us zs ws} r rz => ?_⟩
  · obtain ⟨oc, od, kV, doc, pm, an, cdv, ct, osl, rfl, _⟩ := F.ex
    cases us with
    | cons _ _ => exact absurd hl (by show 0 ≠ 1; decide)
    | nil =>
      match ws, hl with
      | [u], _ =>
        show wpAny M A (bindArgs _ ⟨[], [(y, u)]⟩) Q E s
        rw [h]
        exact wpAny_pure q
  · cases r with
    | nil => exact rz
    | cons _ _ => exact .nil
theorem kb_two {K : PySem.W.Frag} {x qual y z : Str} {st : Stmt} {f : Addr} {fd : FuncData} (F : Fun K x qual st f fd) (h : ∀ (kV doc pm : Value) (an : Option Addr) (cdv ct : Value) (u v : Value), bindArgs (PySem.W.fnOf x qual (defArgs st) (defBody st) (defScope st) .none kV doc pm an cdv ct) ⟨[], [(z, u), (y, v)]⟩ = pure [(y, v), (z, u)]) :
    KBinds K fd [y, z] [z, y] (gK two) (gK two) := by
  refine ⟨fun s us ws X hl M A E Q q => ?_, fun {vs us zs ws} r rz => ?_⟩
  · obtain ⟨oc, od, kV, doc, pm, an, cdv, ct, osl, rfl, _⟩ := F.ex
    cases us with
    | cons _ _ => exact absurd hl (by show 0 ≠ 2; decide)
    | nil =>
      match ws, hl, q with
      | [], hl, q => exact absurd hl (by show 0 ≠ 2; decide)
      | [_], hl, q => exact absurd hl (by show 0 ≠ 2; decide)
      | [u, v], _, q =>
        show wpAny M A (bindArgs _ ⟨[], [(z, u), (y, v)]⟩) Q E s
        rw [h]
        exact wpAny_pure q
      | _ :: _ :: _ :: _, hl, q => exact absurd hl (by show 0 ≠ 2; decide)
  · cases r with
    | cons _ _ => exact .nil
    | nil =>
      cases rz with
      | nil => exact .nil
      | cons a r => cases r with
        | nil => exact .nil
        | cons b r => cases r with
          | nil => exact .cons b (.cons a .nil)
          | cons _ _ => exact .nil
/-- what the law's most makes of a lambda that is refused by the class at C -/
def TMost (C : Addr) (nm : Str) : (XK → Hp → VK → Prop) → Hp → VK → Prop := fun tl H Q =>
  tl (fun cls d H' => cls = .ref C ∧ ∃ (dd : Addr) (v : V), d = some dd ∧ H' dd = some (.xd [(("most" : Str), v), (("word" : Str), .str nm)]) ∧ ∀ p, H' p = none → Q (.ref p) (upd H' p (.lst [.str nm, v]))) H (fun _ _ => False)
end WB
namespace WB
open PySem PySem.Spec PyProof.Rows L2
/-! ### lambdas that are kept in a list -/
abbrev lamO (X : Cx) (params : Arguments) (body : Expr) (scope : Scope) (pm : Value) (c' : Addr) (ctv : Value) : Obj := PySem.W.kla_obj "<lambda>" (X.env.qual ++ "<lambda>") params body scope (cloFrom X.env.cells scope.names []) pm c' ctv
section
variable {X : Cx} {pins : List (Addr × Obj)} {σ : L2.St} {H : Hp} {s : Shared}
theorem inv_pin (I : Inv X pins σ H s) (hst : X.stack = X.env :: X.outer) (hfm : X.env.frame = some X.env.locals) {f : Addr} {o : Obj} (hf : s.heap.get? f = some o) (hn : H f = none) (hfr : f ∉ frs X.stack) (hd : ∀ v, o.data ≠ .cell v) : Inv X (pins ++ [(f, o)]) σ H s := by
  have nL : f ≠ X.env.locals := fun y => hfr (List.mem_filterMap.mpr ⟨X.env, by rw [hst]; exact List.mem_cons_self, hfm.trans (congrArg some y.symm)⟩)
  have nF : f ∉ X.fs := fun hm => by
    obtain ⟨e, he, y⟩ := List.mem_filterMap.mp hm
    exact hfr (List.mem_filterMap.mpr ⟨e, by rw [hst]; exact List.mem_cons_of_mem _ he, y⟩)
  refine { I with pin := fun p hp => ?_ }
  rcases List.mem_append.mp hp with h | h
  · exact I.pin p (List.mem_append_left _ h)
  rcases List.mem_append.mp h with h | h
  · exact I.pin p (List.mem_append_right _ h)
  · rw [List.mem_singleton.mp h]
    exact ⟨hf, hn, nL, nF, hd⟩
theorem inv_unpin {l : List (Addr × Obj)} (I : Inv X (pins ++ l) σ H s) : Inv X pins σ H s := by
  refine { I with pin := fun p hp => I.pin p ?_ }
  rcases List.mem_append.mp hp with h | h
  · exact List.mem_append_left _ h
  · exact List.mem_append_right _ (List.mem_append_left _ h)
end
section
variable {X : Cx} {T : List (Addr × Str)} {c P : Addr} {params : Arguments} {body : Expr} {scope : Scope} {lpos lp py pos : Pos} {y : Str} {i : Nat} {rest : List Stmt} {u : Addr → Addr → TS}
theorem sp_back {X : Cx} {pins l : List (Addr × Obj)} {D : Ends} {fl : Flow} {s : Shared} (kk : Cx.Ok X) (h : SP (X.tr (X.pn ++ (pins ++ l)) X.xe) [] D fl s) : SP X pins D fl s := by
  cases fl with
  | next => obtain ⟨τ, G, J, q⟩ := h; exact ⟨τ, G, inv_unpin (J.ofTry kk), q⟩
  | brk => obtain ⟨τ, G, J, q⟩ := h; exact ⟨τ, G, inv_unpin (J.ofTry kk), q⟩
  | cont => obtain ⟨τ, G, J, q⟩ := h; exact ⟨τ, G, inv_unpin (J.ofTry kk), q⟩
  | ret u => obtain ⟨v, τ, G, J, r, q⟩ := h; exact ⟨v, τ, G, inv_unpin (J.ofTry kk), r, q⟩
/-- xs = [lambda: e] -/
theorem pss_lamset {q : Str} (hq : X.env.qual ++ "<lambda>" = q) (hst : X.stack = X.env :: X.outer) (hfm : X.env.frame = some X.env.locals) (hN : X.N.Nodup) (hi : X.N[i]? = some y) (hy : Loc X.env.scope y) (TB : LamX.TabB X.base X.mg c P) (hcode : X.env.code = .ref c) (hmT : (P, X.env.qual ++ "<lambda>") ∈ T)
    (hu : ∀ p ∈ T, p.1 = P → p.2 = X.env.qual ++ "<lambda>") (L : LamX.LamS X.env.scope scope) (hdef : defaultsOf params X.env = ([], []))
    (hrest : ∀ (f c' : Addr) (pm ctv : Value) (pn' : List (Addr × Obj)), f ∉ frs X.stack → (f, lamO X params body scope pm c' ctv) ∈ pn' → (∀ p ∈ X.pn, p ∈ pn') → PSs (X.tr pn' X.xe) rest (u f c'))
    (hs : swapsWith (.List [.Lambda params body scope lpos] lp) (some (.Name y py)) pos.line X.env = pure false := by rfl) (hl : X.fn y = true ∨ X.env.scope.names.lookup y = some .local := by first | exact .inr rfl | exact .inl rfl) :
    PSs X (.Assign [.Name y py] (.List [.Lambda params body scope lpos] lp) pos :: rest)
      (fun D σ H => LamX.Tabs T H ∧ ∀ (f c' : Addr) (H1 : Hp), LamX.ExtN H H1 → LamX.Tabs T H1 → H1 f = none → H1 c' = some (LamX.CodeO c' q) → ∀ p, H1 p = none → u f c' D (σ.set i (some (.ref p))) (upd H1 p (.lst [.ref f]))) := by
  refine ⟨fun pins s σ H D I h => ?_⟩
  subst hq
  obtain ⟨hT, h⟩ := h
  have kk := I.ok
  refine wpAny_execs_cons (wpAny_Assign_Name (wpAny_List_spliced ?_) hs)
  show wpAny _ _ (spliced [(false, _)]) _ _ _
  refine Calls.spliced_cons (LamX.lam_make2 I TB hcode hmT hu hT hdef (L.has I.ok) fun f c' pm ctv H1 s' I1 eN T1 hf hfn hfr hco => Calls.spliced_nil ⟨(by show 1 ≤ sizeLine; decide), ?_⟩)
  have I2 := inv_pin I1 hst hfm hf hfn hfr (fun v z => by cases z)
  have hfresh := I2.hok.fresh (Nat.le_refl s'.heap.objs.size)
  have I3 : Inv X (pins ++ [(f, lamO X params body scope pm c' ctv)]) σ (upd H1 s'.heap.objs.size (.lst [.ref f])) { s' with heap := s'.heap.push { cls := .type "list", data := .seq (List.toArray [Value.ref f]) } } :=
    I2.laid (t' := s'.toks) (fun b w e => Heap.get?_push_of_some _ e) (Nat.le_refl _) ⟨(by show 1 ≤ sizeLine; decide), [Value.ref f], 0, .cons rfl .nil, Heap.get?_push_size s'.heap rfl⟩
  refine store_ok (v := .ref s'.heap.objs.size) I3 hN hi hy rfl (fun s2 I4 => ?_) hl
  have kr := (hrest f c' pm ctv (X.pn ++ (pins ++ [(f, lamO X params body scope pm c' ctv)])) hfr (List.mem_append_right _ (List.mem_append_right _ (.head _))) (fun p hp => List.mem_append_left _ hp)).run [] s2 _ _ D (I4.toTry X.xe) (h f c' H1 eN T1 hfn hco _ hfresh)
  exact wpAny_mono kr (fun fl z hsp => sp_back kk hsp) (fun _ _ y => y)
variable {p1 p2 p3 p4 : Pos}
/-- xs.append(lambda: e) -/
theorem pss_lamapp {q : Str} (hq : X.env.qual ++ "<lambda>" = q) (hst : X.stack = X.env :: X.outer) (hfm : X.env.frame = some X.env.locals) (hv : PE X (.Name y p1) (tVar i)) (TB : LamX.TabB X.base X.mg c P) (hcode : X.env.code = .ref c) (hmT : (P, X.env.qual ++ "<lambda>") ∈ T)
    (hu : ∀ p ∈ T, p.1 = P → p.2 = X.env.qual ++ "<lambda>") (L : LamX.LamS X.env.scope scope) (hdef : defaultsOf params X.env = ([], []))
    (hrest : ∀ (f c' : Addr) (pm ctv : Value) (pn' : List (Addr × Obj)), f ∉ frs X.stack → (f, lamO X params body scope pm c' ctv) ∈ pn' → (∀ p ∈ X.pn, p ∈ pn') → PSs (X.tr pn' X.xe) rest (u f c'))
    (hbase : attributeBase (.Name y p1) "append" X.env (eval (.Name y p1) X.env) = eval (.Name y p1) X.env := by rfl) (hline : (p2.endLine == p3.line) = true := by rfl)
    (hs : swapsWith (.Call (.Attribute (.Name y p1) "append" p2) [.Lambda params body scope lpos] [] p3) none p4.line X.env = pure false := by rfl) :
    PSs X (.Expr (.Call (.Attribute (.Name y p1) "append" p2) [.Lambda params body scope lpos] [] p3) p4 :: rest)
      (fun D σ H => LamX.Tabs T H ∧ ∃ p xs, σ[i]? = some (some (.ref p)) ∧ H p = some (.lst xs) ∧ xs.length < sizeLine ∧ ∀ (f c' : Addr) (H1 : Hp), LamX.ExtN H H1 → LamX.Tabs T H1 → H1 f = none → H1 c' = some (LamX.CodeO c' q) → u f c' D σ (upd H1 p (.lst (xs ++ [.ref f])))) := by
  refine ⟨fun pins s σ H D I h => ?_⟩
  subst hq
  obtain ⟨hT, p, xs, hσ, hp, hz, h⟩ := h
  have kk := I.ok
  refine wpAny_execs_cons (wpAny_Expr_any ?_ I.quiet hs)
  refine wpAny_Call_method_late (trees := [(false, _)]) hbase (by rfl) hline rfl (thn (hv.run pins s σ H (fun x H1 => x = .ref p ∧ H1 = H) I ⟨_, hσ, rfl, rfl⟩) fun v s1 x => ?_)
  obtain ⟨x, H1, I1, r1, rfl, rfl⟩ := x
  obtain ⟨h1, h2⟩ := tyV_is (T := "list") I1 r1 (.inl ⟨rfl, xs, SqL.of hp⟩)
  refine ⟨"list", "list.append", PySem.F.plainAttrs_list, PySem.F.slot_list_append, PySem.F.type_list_append, h1, h2, ?_⟩
  refine Calls.callWith_builtin (by rfl) (Calls.evalArgs_plain ?_)
  refine Calls.spliced_cons (LamX.lam_make2 I1 TB hcode hmT hu hT hdef (L.has I1.ok) fun f c' pm ctv H2 s' I2 eN T2 hf hfn hfr hco => Calls.spliced_nil ?_)
  have I3 := inv_pin I2 hst hfm hf hfn hfr (fun v z => by cases z)
  have hp2 := eN _ _ hp (fun ps z => by cases z)
  refine thn (mt_append (X := X) (pins ++ [(f, lamO X params body scope pm c' ctv)]) s' σ H2 (.ref p) [.ref f] v [Value.ref f] (fun v H' => H' = upd H2 p (.lst (xs ++ [.ref f]))) I3 r1 (.cons rfl .nil) ⟨p, xs, .ref f, rfl, rfl, hp2, hz, rfl⟩) fun w s2 x => ?_
  obtain ⟨w', H', I4, r4, rfl⟩ := x
  have kr := (hrest f c' pm ctv (X.pn ++ (pins ++ [(f, lamO X params body scope pm c' ctv)])) hfr (List.mem_append_right _ (List.mem_append_right _ (.head _))) (fun p hp => List.mem_append_left _ hp)).run [] s2 _ _ D (I4.toTry X.xe) (h f c' H2 eN T2 hfn hco)
  exact wpAny_mono kr (fun fl z hsp => sp_back kk hsp) (fun _ _ y => y)
end
section
variable {X : Cx} {TT : (XK → Hp → VK → Prop) → Hp → VK → Prop} {x a : Str} {g f c' : Addr} {k : Nat} {pg : Arguments} {bg : List Stmt} {sg : Scope} {dV kV doc pm cdv ct oc pm' ctv : Value} {an od : Option Addr} {osl : Array (Option Value)} {Ng : List Str}
  {params : Arguments} {body ea : Expr} {scope : Scope} {t : XK → TE} {p pos : Pos} {j : Nat}
/-- g(x), where x is a lambda that was kept -/
theorem pe_actname {q : Str} (hq : X.env.qual ++ "<lambda>" = q) (hpin : (f, lamO X params body scope pm' c' ctv) ∈ X.pn) (hfr : f ∉ frs X.stack) (hg : Gl X x) (hm : X.mg x = some (.ref g)) (hk : PySem.W.keepIn X.K (.ref g) = true) (lk : X.K.lookup g = some ⟨oc, od, .func (PySem.W.fnOf x x pg bg sg dV kV doc pm an cdv ct), osl⟩)
    (hcg : PySem.W.codeIn X.K cdv x = true) (hb : L2.Binds X.K (PySem.W.fnOf x x pg bg sg dV kV doc pm an cdv ct) [a] []) (Sg : FnScope Ng [a] sg) (hNg : Ng[0]? = some a) (hva : Vis sg a) (hG : LamX.GivesTo X Ng x sg g cdv bg a (X.env.qual ++ "<lambda>") TT)
    (hr : Room (k + 2) X.A) (L : LamX.LamS X.env.scope scope) (hbind : ∀ (q : Str) (cl : List (Str × Addr)) (pm cv ctv : Value), bindArgs (PySem.W.kla_fn "<lambda>" q params body scope cl pm cv ctv) ⟨[], []⟩ = pure [])
    (hbody : ∀ (A : Around) (outer : List Env) (s : Shared) (H : Hp) (E : XK) (f c' : Addr), Room k (A.deeper (LamX.lamEnv X scope s.heap.objs.size f c')) → PE (LamX.lamCx X A outer s H E scope f c') body (t E)) (ha : PE X ea (tVar j))
    (hdb : (x == ("__debug__" : Str)) = false := by decide) (hd : (a == ("__debug__" : Str)) = false := by decide) (hcd : (a == ("__classdict__" : Str)) = false := by decide)
    (he : starEach [ea] X.env = (false, eval ea X.env) :: starEach [] X.env := by rfl) (hpl : (backTo pos (starEach [] X.env)).any (·.1) = false := by rfl) :
    PE X (.Call (.Name x p) [ea] [] pos) (fun σ H Q => σ[j]? = some (some (.ref f)) ∧ H c' = some (LamX.CodeO c' q) ∧ TT (fun E H' Q' => t E σ H' Q') H Q) := by
  refine ⟨fun pins s σ H Q I h => wpAny_Call_Name_kw (ld_glob I hg hm (PySem.W.callWith_K I.ok.mod.kin hk ?_ he hpl) hdb)⟩
  subst hq
  obtain ⟨hσ, hco, hT⟩ := h
  refine thn ((pa_cons ha pa_nil he).run pos pins s σ H (fun vs H1 => vs = [.ref f] ∧ H1 = H) I ⟨_, hσ, rfl, rfl⟩) fun us s1 y => ?_
  obtain ⟨vs, H1, I1, r1, rfl, rfl⟩ := y
  obtain ⟨w, rfl, rw_⟩ := r1.one
  have rw2 : w = Value.ref f := rw_
  subst rw2
  refine ⟨I1.kIn, ?_⟩
  obtain ⟨hf, hfn, _⟩ := I1.pin _ (List.mem_append_left _ hpin)
  have rc := LamX.run_ofS (CX := C8.CX0) (E := C8.E0) (Q := Q) lk hcg Sg hr I1.env0 (hb s1 [Value.ref f] I1.kIn rfl) (show Vals [V.ref f] [Value.ref f] from .cons rfl .nil) rfl (fun hr' => by
    obtain ⟨t', ht', hq'⟩ := hG f c' s1 H1 Q (fun E H' Q' => t E σ H' Q') (fun W pn xe E p1 p2 tk hW => LamX.pe_act I1 L hf hfn hfr (hbind _ _ _ _ _) tk hW hr' (fun A outer s H hr2 => hbody A outer s H E f c' hr2) hNg hva hd hcd) hco hT
    exact ⟨t', ht'.nox, hq'⟩)
  refine wpAny_call (codeAny_mono rc fun r s2 hq => ?_)
  cases r with
  | error e => exact (show False from hq).elim
  | ok fl =>
    cases fl with
    | next => exact (show False from hq).elim
    | brk => exact (show False from hq).elim
    | cont => exact (show False from hq).elim
    | ret u => exact I1.after hq
theorem pe_or2 {X : Cx} {e : Expr} {t u : TE} (h1 : PE X e t) (h2 : PE X e u) : PE X e (fun σ H Q => t σ H Q ∨ u σ H Q) := ⟨fun pins s σ H Q I h => h.elim (fun h => h1.run pins s σ H Q I h) (fun h => h2.run pins s σ H Q I h)⟩
end
end WB
namespace WB
open PySem PySem.Spec PyProof.Rows L2
/-! ### objects: fields, methods, new ones -/
section
variable {X : Cx} (K : PySem.W.Frag) {e o value : Expr} {f : Str} {pos pos' tpos : Pos} {ta tv : TE} {op : Operator} {rd : V → V → Hp → VK → Prop}
theorem pe_fldK (h : X.K = K) (he : PE X e ta) (hb : attributeBase e f X.env (eval e X.env) = eval e X.env := by rfl) : PE X (.Attribute e f pos) (tFld K ta f) := by subst h; exact pe_fld he hb
theorem ps_fldK (h : X.K = K) (ho : PE X o ta) (hv : PE X value tv) (hs : swapsWith value (some (.Attribute o f pos')) pos.line X.env = pure false := by rfl) : PS X (.Assign [.Attribute o f pos'] value pos) (sFld K ta tv f) := by subst h; exact ps_fld ho hv hs
theorem ps_fldaugK (h : X.K = K) (ho : PE X o ta) (hv : PE X value tv) (hop : InOp X op rd) : PS X (.AugAssign (.Attribute o f tpos) op value pos) (sFldAug K ta tv rd f) := by subst h; exact ps_fldaug ho hv hop
def rTupK (K : PySem.W.Frag) : List V → Hp → VK → Prop := fun xs H Q => ∃ p ys, xs = [.ref p] ∧ ((SqL K H p ys ∧ ∀ l, H l = none → Q (.ref l) (upd H l (.tup ys))) ∨ (SqT K H p ys ∧ Q (.ref p) H))
theorem call_tupleK (h : X.K = K) : CallR X (.type "tuple") (rTupK K) := by subst h; exact call_tuple_of
end
/-- a method of the class at C -/
def CalM (CX : CXT) (P : Program) (w : World) (K : PySem.W.Frag) (mg : Str → Option Value) (base : Heap) (k : Nat) (C : Addr) (m : Str) (ps : List Str) (sp : Sp) : Prop :=
  ∃ (f : Addr) (fd : FuncData), Cls K C ∧ Meth K C m f ∧ FnOk P w K mg base CX k f fd ps sp ∧ Binds K fd ps []
theorem CalM.mono {CX : CXT} {P : Program} {w : World} {K : PySem.W.Frag} {mg : Str → Option Value} {base : Heap} {j k : Nat} {C : Addr} {m : Str} {ps : List Str} {sp : Sp} (c : CalM CX P w K mg base j C m ps sp) (h : j ≤ k) : CalM CX P w K mg base k C m ps sp := by
  obtain ⟨f, fd, a, b, d, e⟩ := c
  exact ⟨f, fd, a, b, d.mono h, e⟩
/-- new things of the class at C -/
def CalN (P : Program) (w : World) (K : PySem.W.Frag) (mg : Str → Option Value) (base : Heap) (k : Nat) (nm : Str) (C : Addr) (ps : List Str) (sp : Sp) : Prop :=
  ∃ (f : Addr) (fd : FuncData), Mk K C f ∧ FnOk P w K mg base CX0 k f fd ps sp ∧ mg nm = some (.ref C) ∧ Binds K fd ps []
theorem CalN.mono {P : Program} {w : World} {K : PySem.W.Frag} {mg : Str → Option Value} {base : Heap} {j k : Nat} {nm : Str} {C : Addr} {ps : List Str} {sp : Sp} (c : CalN P w K mg base j nm C ps sp) (h : j ≤ k) : CalN P w K mg base k nm C ps sp := by
  obtain ⟨f, fd, a, b, d, e⟩ := c
  exact ⟨f, fd, a, b.mono h, d, e⟩
section
variable {X : Cx} {k : Nat} {C : Addr} {m nm : Str} {ps : List Str} {sp : Sp} {E : XK} {pos apos p : Pos} {e o : Expr} {es : List Expr} {ta : TE} {t : TA} {pl : Sem Bool}
theorem pe_methC (ho : PE X o ta) (c : CalM CX0 X.prog X.w X.K X.mg X.base k C m ps sp) (hr : Room k X.A) (ha : PA X (e :: es) t) (hs : starEach (e :: es) X.env = (false, eval e X.env) :: starEach es X.env := by rfl) (hpl : (backTo pos (starEach es X.env)).any (·.1) = false := by rfl)
    (hc : eval (.Call (.Attribute o m apos) (e :: es) [] pos) X.env = (do
      let ov ← eval o X.env
      standAt apos.atName
      let (f, first) ← holding [ov] (getMethod ov m pl)
      callWith pos f first (backTo pos (starEach (e :: es) X.env)) (backToKw pos (keywordEach [] X.env))) := by rfl) : PE X (.Call (.Attribute o m apos) (e :: es) [] pos) (tMeth C m sp [] E0 ta t) := by
  obtain ⟨f, fd, a, b, d, g⟩ := c
  exact pe_meth ho a b d hr g .nil pass0 ha hs hpl hc
theorem pe_methC0 (ho : PE X o ta) (c : CalM CX0 X.prog X.w X.K X.mg X.base k C m ps sp) (hr : Room k X.A)
    (hc : eval (.Call (.Attribute o m apos) [] [] pos) X.env = (do
      let ov ← eval o X.env
      standAt apos.atName
      let (f, first) ← holding [ov] (getMethod ov m pl)
      callWith pos f first (backTo pos (starEach [] X.env)) (backToKw pos (keywordEach [] X.env))) := by rfl) : PE X (.Call (.Attribute o m apos) [] [] pos) (tMeth C m sp [] E0 ta tNil) := by
  obtain ⟨f, fd, a, b, d, g⟩ := c
  exact pe_meth0 ho a b d hr g .nil pass0 hc
/-- a method that may let an exception out, where it lets out none -/
theorem pe_methF (ho : PE X o ta) (c : CalM (L2.CX X.prog X.w) X.prog X.w X.K X.mg X.base k C m ps sp) (hr : Room k X.A) (ha : PA X (e :: es) t) (hs : starEach (e :: es) X.env = (false, eval e X.env) :: starEach es X.env := by rfl) (hpl : (backTo pos (starEach es X.env)).any (·.1) = false := by rfl)
    (hc : eval (.Call (.Attribute o m apos) (e :: es) [] pos) X.env = (do
      let ov ← eval o X.env
      standAt apos.atName
      let (f, first) ← holding [ov] (getMethod ov m pl)
      callWith pos f first (backTo pos (starEach (e :: es) X.env)) (backToKw pos (keywordEach [] X.env))) := by rfl) : PE X (.Call (.Attribute o m apos) (e :: es) [] pos) (tMeth C m sp [] E0 ta t) := by
  obtain ⟨f, fd, a, b, d, g⟩ := c
  exact pe_meth ho a b d hr g .nil passL ha hs hpl hc
theorem pe_methP (ho : PE X o ta) (c : CalM (L2.CX X.prog X.w) X.prog X.w X.K X.mg X.base k C m ps sp) (hr : Room k X.A) (hx : Passes (L2.CX X.prog X.w) X E) (ha : PA X (e :: es) t) (hs : starEach (e :: es) X.env = (false, eval e X.env) :: starEach es X.env := by rfl) (hpl : (backTo pos (starEach es X.env)).any (·.1) = false := by rfl)
    (hc : eval (.Call (.Attribute o m apos) (e :: es) [] pos) X.env = (do
      let ov ← eval o X.env
      standAt apos.atName
      let (f, first) ← holding [ov] (getMethod ov m pl)
      callWith pos f first (backTo pos (starEach (e :: es) X.env)) (backToKw pos (keywordEach [] X.env))) := by rfl) : PE X (.Call (.Attribute o m apos) (e :: es) [] pos) (tMeth C m sp [] E ta t) := by
  obtain ⟨f, fd, a, b, d, g⟩ := c
  exact pe_meth ho a b d hr g .nil hx ha hs hpl hc
theorem pe_makeC0 (c : CalN X.prog X.w X.K X.mg X.base k nm C ps sp) (hr : Room (k + 1) X.A) (hg : Gl X nm) (hdb : (nm == ("__debug__" : Str)) = false := by decide) : PE X (.Call (.Name nm p) [] [] pos) (tMake C sp [] E0 tNil) := by
  obtain ⟨f, fd, a, b, d, g⟩ := c
  exact pe_make0 a b hr hg d g .nil pass0 hdb
end
/-! ### heaps that keep their lists -/
/-- lists, tuples and what is held still stay -/
def Lk (H H' : Hp) : Prop := ∀ a o, H a = some o → (∃ xs, o = .lst xs) ∨ (∃ xs, o = .tup xs) ∨ (∃ u v, o = .frz u v) → H' a = some o
section
variable {K : PySem.W.Frag}
theorem lk_l {H H' : Hp} {a : Addr} {xs : List V} (e : Lk H H') (h : SqL K H a xs) : SqL K H' a xs := by
  rcases h with (h | ⟨o, h⟩) | h
  · exact .inl (.inl (e _ _ h (.inl ⟨_, rfl⟩)))
  · exact .inl (.inr ⟨o, e _ _ h (.inr (.inr ⟨_, _, rfl⟩))⟩)
  · exact .inr h
theorem lk_t {H H' : Hp} {a : Addr} {xs : List V} (e : Lk H H') (h : SqT K H a xs) : SqT K H' a xs := by
  rcases h with (h | ⟨o, h⟩) | h
  · exact .inl (.inl (e _ _ h (.inr (.inl ⟨_, rfl⟩))))
  · exact .inl (.inr ⟨o, e _ _ h (.inr (.inr ⟨_, _, rfl⟩))⟩)
  · exact .inr h
mutual
theorem dp_lk {H H' : Hp} (e : Lk H H') : ∀ {d : PyData} {x : V}, Dp K H x d → Dp K H' x d
  | _, _, .non => .non
  | _, _, .bl b => .bl b
  | _, _, .int i => .int i
  | _, _, .str s => .str s
  | _, _, .lst hs ha => .lst (lk_l e hs) (dpa_lk e ha)
  | _, _, .tup hs ha => .tup (lk_t e hs) (dpa_lk e ha)
theorem dpa_lk {H H' : Hp} (e : Lk H H') : ∀ {ds : List PyData} {xs : List V}, DpAll K H xs ds → DpAll K H' xs ds
  | _, _, .nil => .nil
  | _, _, .cons h t => .cons (dp_lk e h) (dpa_lk e t)
end
theorem lk_mv {b : Addr} {H H' : Hp} (m : Mv b H H') (h : ∀ o, H b = some o → ¬ ((∃ xs, o = .lst xs) ∨ (∃ xs, o = .tup xs) ∨ (∃ u v, o = .frz u v))) : Lk H H' := fun a o e k => m a o (fun z => by subst z; exact h o e k) e
theorem lk_same {H H' : Hp} (s : Same H H') : Lk H H' := fun a o e _ => s a o e
end
end WB
namespace WB
open PySem PySem.Spec PyProof.Rows L2
/-! ### things that stand apart in the heap -/
/-- all but what stands at F stays, and nothing vanishes -/
structure MvF (F : List Addr) (H H' : Hp) : Prop where
  kp : ∀ a o, a ∉ F → H a = some o → H' a = some o
  al : ∀ a, H' a = none → H a = none
theorem al_same {H H' : Hp} (s : Same H H') : ∀ a, H' a = none → H a = none := fun _ h => s.free h
theorem al_upd {H H' : Hp} {p : Addr} {o : HO} (s : ∀ a, H' a = none → H a = none) : ∀ a, upd H' p o a = none → H a = none := fun a h => by
  by_cases z : a = p
  · rw [z, upd_same] at h
    cases h
  · rw [upd_ne z] at h
    exact s a h
theorem al_mv {H H' : Hp} {p : Addr} {o : HO} (m : Mv p H H') (e : H' p = some o) : ∀ a, H' a = none → H a = none := fun a h => by
  by_cases z : a = p
  · rw [z, e] at h
    cases h
  · exact m.none z h
section
variable {F : List Addr} {H H' H1 H2 : Hp}
theorem MvF.refl (F : List Addr) (H : Hp) : MvF F H H := ⟨fun _ _ _ h => h, fun _ h => h⟩
theorem MvF.of (s : Same H H') : MvF F H H' := ⟨fun a o _ h => s a o h, al_same s⟩
theorem MvF.mv {p : Addr} {o : HO} (m : Mv p H H') (e : H' p = some o) (hp : p ∈ F) : MvF F H H' := ⟨fun a u n h => m a u (fun z => n (z ▸ hp)) h, al_mv m e⟩
theorem MvF.trans (m : MvF F H H1) (m' : MvF F H1 H2) : MvF F H H2 := ⟨fun a o n h => m'.kp a o n (m.kp a o n h), fun a h => m.al a (m'.al a h)⟩
theorem MvF.upd {p : Addr} {o : HO} (m : MvF F H H') (hp : p ∈ F) : MvF F H (L2.upd H' p o) := ⟨fun a u n h => by rw [upd_ne (fun z : a = p => n (by rw [z]; exact hp))]; exact m.kp a u n h, al_upd m.al⟩
theorem MvF.wide {G : List Addr} (m : MvF F H H') (h : ∀ a ∈ F, a ∈ G) : MvF G H H' := ⟨fun a o n e => m.kp a o (fun z => n (h a z)) e, m.al⟩
/-- where the second one's places are the first one's, or new -/
theorem MvF.trans2 {G : List Addr} (m : MvF F H H1) (m' : MvF G H1 H2) (hg : ∀ a ∈ G, a ∈ F ∨ H a = none) : MvF F H H2 := by
  refine ⟨fun a o n e => m'.kp a o (fun z => ?_) (m.kp a o n e), fun a h => m.al a (m'.al a h)⟩
  rcases hg a z with y | y
  · exact n y
  · rw [y] at e
    cases e
theorem MvF.same (m : MvF F H H') (s : Same H' H1) : MvF F H H1 := m.trans (.of s)
theorem MvF.new (m : MvF F H H') {p : Addr} {o : HO} (n : H' p = none) : MvF F H (L2.upd H' p o) := m.same (same_upd n)
theorem MvF.free (m : MvF F H H') {p : Addr} (h : H' p = none) : H p = none := m.al p h
theorem MvF.toSame (m : MvF [] H H') : Same H H' := fun a o h => m.kp a o List.not_mem_nil h
end
/-- no table of code, no thing of the machine's own -/
def plain : HO → Prop
  | .tbl _ => False
  | .ext _ => False
  | _ => True
structure Th where
  ft : List Addr
  P : Hp → Prop
  loc : ∀ H H' : Hp, (∀ a ∈ ft, ∀ o, H a = some o → H' a = some o) → P H → P H'
  al : ∀ H, P H → ∀ a ∈ ft, ∃ o, H a = some o ∧ plain o
/-- these things stand apart, and the tables of code are as they were -/
structure Hs (T : List (Addr × Str)) (Ts : List Th) (H : Hp) : Prop where
  all : ∀ (i : Nat) (T : Th), Ts[i]? = some T → T.P H
  sep : ∀ (i j : Nat) (x y : Th), i ≠ j → Ts[i]? = some x → Ts[j]? = some y → ∀ a ∈ x.ft, a ∉ y.ft
  tab : LamX.Tabs T H
theorem Th.live (T : Th) {H : Hp} (h : T.P H) {a : Addr} (ha : a ∈ T.ft) : H a ≠ none := by
  obtain ⟨o, e, _⟩ := T.al H h a ha
  rw [e]
  exact fun z => nomatch z
theorem tabs_keep {T : List (Addr × Str)} {H H' : Hp} (t : LamX.Tabs T H) (h : ∀ a o, H a = some o → ¬ plain o → H' a = some o) : LamX.Tabs T H' := fun p hp => by
  obtain ⟨ps, h1, h2, h3⟩ := t p hp
  refine ⟨ps, h _ _ h1 (fun z => z), h2, fun pos cv hc => ?_⟩
  obtain ⟨c, e1, e2⟩ := h3 pos cv hc
  exact ⟨c, e1, h _ _ e2 (fun z => z)⟩
section
variable {T0 : List (Addr × Str)} {Ts Ts' : List Th} {T T' N : Th} {H H' : Hp}
theorem Hs.nil (t : LamX.Tabs T0 H) : Hs T0 [] H := ⟨fun i T h => (by cases h), fun i j x y _ h => (by cases h), t⟩
theorem Hs.nil0 : Hs [] [] H := .nil (fun p hp => absurd hp List.not_mem_nil)
theorem Hs.get (h : Hs T0 Ts H) (i : Nat) (hi : Ts[i]? = some T) : T.P H := h.all i T hi
theorem Hs.same (h : Hs T0 Ts H) (s : Same H H') : Hs T0 Ts H' := ⟨fun i T hi => T.loc H H' (fun a _ o e => s a o e) (h.all i T hi), h.sep, h.tab.ext s⟩
/-- a lambda was made -/
theorem Hs.extN (h : Hs T0 Ts H) (e : LamX.ExtN H H') (t : LamX.Tabs T0 H') : Hs T0 Ts H' := ⟨fun i T hi => T.loc H H' (fun a ha o q => e a o q (fun ps z => by
  obtain ⟨o', e1, e2⟩ := T.al H (h.all i T hi) a ha
  rw [e1] at q
  cases q
  rw [z] at e2
  exact e2)) (h.all i T hi), h.sep, t⟩
theorem Hs.ne (h : Hs T0 Ts H) (i j : Nat) {x y : Th} (hi : Ts[i]? = some x) (hj : Ts[j]? = some y) {a b : Addr} (ha : a ∈ x.ft) (hb : b ∈ y.ft) (n : i ≠ j := by decide) : a ≠ b := fun z => h.sep i j x y n hi hj a ha (z ▸ hb)
theorem Hs.keep (h : Hs T0 Ts H) {i j : Nat} {x : Th} {F : List Addr} (hi : Ts[i]? = some T) (hj : Ts[j]? = some x) (n : j ≠ i) (m : MvF F H H') (hF : ∀ a ∈ F, a ∈ T.ft ∨ H a = none) : x.P H' := by
  refine x.loc H H' (fun a ha o e => m.kp a o (fun z => ?_) e) (h.all j x hj)
  rcases hF a z with y | y
  · exact h.sep j i x T n hj hi a ha y
  · rw [y] at e
    cases e
theorem Hs.op {F : List Addr} (h : Hs T0 Ts H) (i : Nat) (hi : Ts[i]? = some T) (m : MvF F H H') (hF : ∀ a ∈ F, a ∈ T.ft ∨ H a = none) (hp : T'.P H') (hf : ∀ a ∈ T'.ft, a ∈ T.ft ∨ H a = none) : Hs T0 (Ts.set i T') H' := by
  have hil : i < Ts.length := (List.getElem?_eq_some_iff.mp hi).1
  have new : ∀ (j : Nat) (y : Th), j ≠ i → Ts[j]? = some y → ∀ a ∈ T'.ft, a ∉ y.ft := fun j y n hj a ha z => by
    rcases hf a ha with q | q
    · exact h.sep i j T y n.symm hi hj a q z
    · exact y.live (h.all j y hj) z q
  refine ⟨fun j x hj => ?_, fun j k x y n hj hk => ?_, tabs_keep h.tab fun a o e np => m.kp a o (fun z => ?_) e⟩
  · rw [List.getElem?_set] at hj
    by_cases z : i = j
    · rw [if_pos z, if_pos (z ▸ hil)] at hj
      cases hj
      exact hp
    · rw [if_neg z] at hj
      exact h.keep hi hj (fun q => z q.symm) m hF
  · rw [List.getElem?_set] at hj hk
    by_cases z : i = j
    · rw [if_pos z, if_pos (z ▸ hil)] at hj
      rw [if_neg (fun q => n (z.symm.trans q))] at hk
      cases hj
      exact new k y (fun q => n (z.symm.trans q.symm)) hk
    · rw [if_neg z] at hj
      by_cases z2 : i = k
      · rw [if_pos z2, if_pos (z2 ▸ hil)] at hk
        cases hk
        exact fun a ha hb => new j x (fun q => z q.symm) hj a hb ha
      · rw [if_neg z2] at hk
        exact h.sep j k x y n hj hk
  · rcases hF a z with y | y
    · obtain ⟨o', e1, e2⟩ := T.al H (h.all i T hi) a y
      rw [e1] at e
      cases e
      exact np e2
    · rw [y] at e
      cases e
theorem Hs.cons (h : Hs T0 Ts H) (hp : T.P H) (hf : ∀ (j : Nat) (y : Th), Ts[j]? = some y → ∀ a ∈ T.ft, a ∉ y.ft) : Hs T0 (T :: Ts) H := by
  refine ⟨fun j x hj => ?_, fun j k x y n hj hk => ?_, h.tab⟩
  · cases j with
    | zero => cases hj; exact hp
    | succ j => exact h.all j x hj
  · cases j with
    | zero =>
      cases hj
      cases k with
      | zero => exact absurd rfl n
      | succ k => exact hf k y hk
    | succ j =>
      cases k with
      | zero =>
        cases hk
        exact fun a ha hb => hf j x hj a hb ha
      | succ k => exact h.sep j k x y (fun q => n (congrArg (· + 1) q)) hj hk
theorem Hs.new (h : Hs T0 Ts H) (s : Same H H') (hp : T.P H') (hf : ∀ a ∈ T.ft, H a = none) : Hs T0 (T :: Ts) H' :=
  (h.same s).cons hp fun j y hj a ha hb => y.live (h.all j y hj) hb (hf a ha)
/-- a thing changes, and a new one comes -/
theorem Hs.opNew {F : List Addr} (h : Hs T0 Ts H) (i : Nat) (hi : Ts[i]? = some T) (m : MvF F H H') (hF : ∀ a ∈ F, a ∈ T.ft ∨ H a = none) (hp : T'.P H') (hf : ∀ a ∈ T'.ft, a ∈ T.ft ∨ H a = none) (hn : N.P H') (hnf : ∀ a ∈ N.ft, H a = none ∧ a ∉ T'.ft) : Hs T0 (N :: Ts.set i T') H' := by
  refine (h.op i hi m hF hp hf).cons hn fun j y hj a ha hb => ?_
  rw [List.getElem?_set] at hj
  by_cases z : i = j
  · rw [if_pos z, if_pos (z ▸ (List.getElem?_eq_some_iff.mp hi).1)] at hj
    cases hj
    exact (hnf a ha).2 hb
  · rw [if_neg z] at hj
    exact y.live (h.all j y hj) hb (hnf a ha).1
/-- these places of the list, in this order -/
def pickTs (Ts : List Th) : List Nat → List Th
  | [] => []
  | i :: r => match Ts[i]? with
    | some x => x :: pickTs Ts r
    | none => pickTs Ts r
theorem mem_pick : ∀ {is : List Nat} {k : Nat} {x : Th}, (pickTs Ts is)[k]? = some x → ∃ i ∈ is, Ts[i]? = some x
  | [], k, x, h => by cases h
  | i :: r, k, x, h => by
    unfold pickTs at h
    cases e : Ts[i]? with
    | none =>
      rw [e] at h
      obtain ⟨j, hj, q⟩ := mem_pick h
      exact ⟨j, .tail _ hj, q⟩
    | some y =>
      rw [e] at h
      cases k with
      | zero => cases h; exact ⟨i, .head _, e⟩
      | succ k =>
        obtain ⟨j, hj, q⟩ := mem_pick (k := k) h
        exact ⟨j, .tail _ hj, q⟩
theorem Hs.sel (h : Hs T0 Ts H) : ∀ (is : List Nat), is.Nodup → Hs T0 (pickTs Ts is) H
  | [], _ => .nil h.tab
  | i :: r, hn => by
    have hn := List.nodup_cons.mp hn
    have t := h.sel r hn.2
    unfold pickTs
    cases e : Ts[i]? with
    | none => exact t
    | some x =>
      refine t.cons (h.all i x e) fun j y hj => ?_
      obtain ⟨k, hk, q⟩ := mem_pick hj
      exact h.sep i k x y (fun z => hn.1 (z ▸ hk)) e q
theorem Hs.tail {x : Th} (h : Hs T0 (x :: Ts) H) : Hs T0 Ts H := ⟨fun i T hi => h.all (i + 1) T hi, fun i j x y n hi hj => h.sep (i + 1) (j + 1) x y (by omega) hi hj, h.tab⟩
theorem Hs.head {x : Th} (h : Hs T0 (x :: Ts) H) : x.P H := h.all 0 x rfl
theorem Hs.apart {x y : Th} (h : Hs T0 (x :: Ts) H) (hy : y ∈ Ts) : ∀ a ∈ x.ft, a ∉ y.ft := by
  obtain ⟨j, hj⟩ := List.getElem?_of_mem hy
  exact h.sep 0 (j + 1) x y (by omega) rfl hj
theorem Hs.swap {x y : Th} (h : Hs T0 (x :: y :: Ts) H) : Hs T0 (y :: x :: Ts) H :=
  (h.tail.tail.cons h.head fun j z hj => h.apart (.tail _ (List.mem_of_getElem? hj))).cons h.tail.head fun j z hj a ha hb => by
    rcases List.mem_cons.mp (List.mem_of_getElem? hj) with rfl | hm
    · exact h.apart (.head _) a hb ha
    · exact h.tail.apart hm a ha hb
theorem Hs.perm (p : Ts.Perm Ts') : ∀ {H : Hp}, Hs T0 Ts H → Hs T0 Ts' H := by
  induction p with
  | nil => exact fun h => h
  | cons x q ih => exact fun h => (ih h.tail).cons h.head fun j y hj => h.apart (q.mem_iff.mpr (List.mem_of_getElem? hj))
  | swap x y l => exact fun h => h.swap
  | trans _ _ ih1 ih2 => exact fun h => ih2 (ih1 h)
/-- two things seen as one -/
theorem Hs.merge {A B C : Th} (h : Hs T0 (A :: B :: Ts) H) (hp : C.P H) (hf : ∀ a ∈ C.ft, a ∈ A.ft ∨ a ∈ B.ft) : Hs T0 (C :: Ts) H :=
  h.tail.tail.cons hp fun j y hj a ha hb => (hf a ha).elim (fun z => h.apart (.tail _ (List.mem_of_getElem? hj)) a z hb) (fun z => h.tail.apart (List.mem_of_getElem? hj) a z hb)
theorem Hs.drop1 {x y : Th} (h : Hs T0 (x :: y :: Ts) H) : Hs T0 (x :: Ts) H := h.swap.tail
theorem Hs.drop2 {x y z : Th} (h : Hs T0 (x :: y :: z :: Ts) H) : Hs T0 (x :: y :: Ts) H := h.tail.drop1.cons h.head fun j u hj => by
  rcases List.mem_cons.mp (List.mem_of_getElem? hj) with rfl | hm
  · exact h.apart (.head _)
  · exact h.apart (.tail _ (.tail _ hm))
theorem Hs.drop3 {x y z u : Th} (h : Hs T0 (x :: y :: z :: u :: Ts) H) : Hs T0 (x :: y :: z :: Ts) H := h.tail.drop2.cons h.head fun j v hj => by
  rcases List.mem_cons.mp (List.mem_of_getElem? hj) with rfl | hm
  · exact h.apart (.head _)
  rcases List.mem_cons.mp hm with rfl | hm
  · exact h.apart (.tail _ (.head _))
  · exact h.apart (.tail _ (.tail _ (.tail _ hm)))
end
/-! ### the commonest things -/
/-- what stands at a -/
def tO (a : Addr) (o : HO) : Th := ⟨[a], fun H => H a = some o ∧ plain o, fun H H' k h => ⟨k a (.head _) o h.1, h.2⟩, fun H h b hb => by rw [List.mem_singleton.mp hb]; exact ⟨o, h⟩⟩
abbrev tL (a : Addr) (xs : List V) : Th := tO a (.lst xs)
theorem Bag.al {b : Addr × Addr} {H : Hp} (g : Bag b H) : H b.1 ≠ none ∧ H b.2 ≠ none := by
  obtain ⟨ns, i, r, x, c, h1, h2, _⟩ := g
  exact ⟨(by rw [h1]; exact fun z => nomatch z), (by rw [h2]; exact fun z => nomatch z)⟩
def tB (b : Addr × Addr) : Th := ⟨[b.1, b.2], Bag b, fun H H' k h => by
  obtain ⟨ns, i, r, x, c, h1, h2, h3⟩ := h
  exact ⟨ns, i, r, x, c, k _ (.head _) _ h1, k _ (.tail _ (.head _)) _ h2, h3⟩, fun H h a ha => by
  obtain ⟨ns, i, r, x, c, h1, h2, h3⟩ := h
  rcases List.mem_cons.mp ha with rfl | ha
  · exact ⟨_, h1, trivial⟩
  · rw [List.mem_singleton.mp ha]
    exact ⟨_, h2, trivial⟩⟩
theorem in1 {a p : Addr} (h : a ∈ [p]) : a = p := List.mem_singleton.mp h
section
variable {T0 : List (Addr × Str)} {b : Addr × Addr} {Ts : List Th} {H H' : Hp} {p : Addr} {o o' : HO}
theorem Hs.bag (h : Hs T0 (tB b :: Ts) H) : Bag b H := h.get 0 rfl
theorem mvf_bag (m : Mv b.1 H H') (g : Bag b H') : MvF [b.1, b.2] H H' := by
  obtain ⟨ns, i, r, x, c, h1, h2, h3⟩ := g
  exact .mv m h1 (.head _)
theorem Hs.mv (h : Hs T0 (tB b :: Ts) H) (m : Mv b.1 H H') (g : Bag b H') : Hs T0 (tB b :: Ts) H' := h.op (T := tB b) (T' := tB b) 0 rfl (mvf_bag m g) (fun a ha => .inl ha) g (fun a ha => .inl ha)
/-- a draw that tells a new thing -/
theorem Hs.newM (h : Hs T0 (tB b :: Ts) H) (m : Mv b.1 H H') (g : Bag b H') (n : H p = none) (e : H' p = some o) (pl : plain o := by exact trivial) : Hs T0 (tB b :: tO p o :: Ts) H' := by
  have h2 : Hs T0 (tO p o :: tB b :: Ts) H' := (h.opNew (T := tB b) (T' := tB b) (N := tO p o) 0 rfl (mvf_bag m g) (fun a ha => .inl ha) g (fun a ha => .inl ha) ⟨e, pl⟩ (fun a ha => by
    rw [in1 ha]
    refine ⟨n, fun z => ?_⟩
    rcases List.mem_cons.mp z with z | z
    · exact (h.bag.al.1) (z ▸ n)
    · exact (h.bag.al.2) (in1 z ▸ n)))
  exact h2.swap
/-- a new thing at the head -/
theorem Hs.newH (h : Hs T0 Ts H) (s : Same H H') (n : H p = none) (e : H' p = some o) (pl : plain o := by exact trivial) : Hs T0 (tO p o :: Ts) H' := h.new (T := tO p o) s ⟨e, pl⟩ (fun a ha => by rw [in1 ha]; exact n)
theorem Hs.newHU (h : Hs T0 Ts H) (n : H p = none) (pl : plain o := by exact trivial) : Hs T0 (tO p o :: Ts) (upd H p o) := h.newH (same_upd n) n upd_same pl
/-- a new thing, put behind the bag -/
theorem Hs.newB (h : Hs T0 (tB b :: Ts) H) (s : Same H H') (n : H p = none) (e : H' p = some o) (pl : plain o := by exact trivial) : Hs T0 (tB b :: tO p o :: Ts) H' := (h.newH s n e pl).swap
theorem Hs.newU (h : Hs T0 (tB b :: Ts) H) (n : H p = none) (pl : plain o := by exact trivial) : Hs T0 (tB b :: tO p o :: Ts) (upd H p o) := h.newB (same_upd n) n upd_same pl
theorem Hs.put (h : Hs T0 Ts H) (i : Nat) (hi : Ts[i]? = some (tO p o)) (pl : plain o' := by exact trivial) : Hs T0 (Ts.set i (tO p o')) (upd H p o') :=
  h.op i hi (F := [p]) ((MvF.refl [p] H).upd (.head _)) (fun a ha => .inl ha) ⟨upd_same, pl⟩ (fun a ha => .inl ha)
theorem Hs.at (h : Hs T0 Ts H) (i : Nat) (hi : Ts[i]? = some (tO p o)) : H p = some o := (h.get i hi).1
end
/-! ### groups: several things seen as one -/
theorem sep_flat {Ts : List Th} {H : Hp} (h : Hs [] Ts H) : ∀ a ∈ Ts.flatMap (·.ft), ∃ o, H a = some o ∧ plain o := fun a ha => by
  obtain ⟨T, hT, ha⟩ := List.mem_flatMap.mp ha
  obtain ⟨i, hi⟩ := List.getElem?_of_mem hT
  exact T.al H (h.all i T hi) a ha
def tG (Ts : List Th) : Th := ⟨Ts.flatMap (·.ft), fun H => Hs [] Ts H, fun H H' k h => ⟨fun i T hi => T.loc H H' (fun a ha => k a (List.mem_flatMap.mpr ⟨T, List.mem_of_getElem? hi, ha⟩)) (h.all i T hi), h.sep, fun p hp => absurd hp List.not_mem_nil⟩, fun H h a ha => sep_flat h a ha⟩
section
variable {T0 : List (Addr × Str)} {Ts Gs : List Th} {H : Hp}
theorem Hs.tabs0 (h : Hs T0 Ts H) : Hs [] Ts H := ⟨h.all, h.sep, fun p hp => absurd hp List.not_mem_nil⟩
theorem Hs.app : ∀ {As : List Th}, Hs [] As H → Hs T0 Ts H → (∀ x ∈ As, ∀ y ∈ Ts, ∀ a ∈ x.ft, a ∉ y.ft) → Hs T0 (As ++ Ts) H
  | [], _, h, _ => h
  | A :: As, g, h, d => (Hs.app g.tail h (fun x hx => d x (.tail _ hx))).cons g.head fun j y hj a ha hb => by
    rcases List.mem_append.mp (List.mem_of_getElem? hj) with hm | hm
    · exact g.apart hm a ha hb
    · exact d A (.head _) y hm a ha hb
theorem Hs.left : ∀ {As : List Th}, Hs T0 (As ++ Ts) H → Hs [] As H
  | [], _ => .nil (fun p hp => absurd hp List.not_mem_nil)
  | A :: As, h => (Hs.left (As := As) h.tail).cons h.head fun j y hj => h.apart (List.mem_append_left _ (List.mem_of_getElem? hj))
theorem Hs.right : ∀ {As : List Th}, Hs T0 (As ++ Ts) H → Hs T0 Ts H
  | [], h => h
  | _ :: As, h => Hs.right (As := As) h.tail
theorem Hs.cross : ∀ {As : List Th}, Hs T0 (As ++ Ts) H → ∀ x ∈ As, ∀ y ∈ Ts, ∀ a ∈ x.ft, a ∉ y.ft
  | A :: As, h, x, hx, y, hy => by
    rcases List.mem_cons.mp hx with rfl | hx
    · exact h.apart (List.mem_append_right _ hy)
    · exact Hs.cross (As := As) h.tail x hx y hy
theorem Hs.ungroup (h : Hs T0 (tG Ts :: Gs) H) : Hs T0 (Ts ++ Gs) H := Hs.app h.head h.tail (fun x hx y hy a ha hb => h.apart hy a (List.mem_flatMap.mpr ⟨x, hx, ha⟩) hb)
theorem Hs.group (h : Hs T0 (Ts ++ Gs) H) : Hs T0 (tG Ts :: Gs) H := h.right.cons h.left fun j y hj a ha hb => by
  obtain ⟨x, hx, ha⟩ := List.mem_flatMap.mp ha
  exact h.cross x hx y (List.mem_of_getElem? hj) a ha hb
end
section
variable {α : Type} {T0 : List (Addr × Str)} {As : List Th} {Y : List α} {f : α → Th} {w : Nat} {y y' : α} {H : Hp}
theorem perm_at : ∀ {Y : List α} {w : Nat} {y : α}, Y[w]? = some y → (y :: Y.eraseIdx w).Perm Y
  | x :: Y, 0, y, h => by cases h; exact .refl _
  | x :: Y, w + 1, y, h => (List.Perm.swap x y _).trans (.cons x (perm_at (Y := Y) (w := w) h))
theorem erase_set : ∀ (Y : List α) (w : Nat) (y : α), (Y.set w y).eraseIdx w = Y.eraseIdx w
  | [], _, _ => rfl
  | x :: Y, 0, y => rfl
  | x :: Y, w + 1, y => congrArg (x :: ·) (erase_set Y w y)
/-- the w-th one to the head -/
theorem Hs.front (h : Hs T0 (As ++ Y.map f) H) (hy : Y[w]? = some y) : Hs T0 (f y :: (As ++ (Y.eraseIdx w).map f)) H := by
  refine h.perm (List.Perm.trans ?_ List.perm_middle)
  exact .append_left As ((perm_at hy).map f).symm
theorem Hs.back (h : Hs T0 (f y' :: (As ++ (Y.eraseIdx w).map f)) H) (hw : w < Y.length) : Hs T0 (As ++ (Y.set w y').map f) H := by
  have hy : (Y.set w y')[w]? = some y' := by rw [List.getElem?_set, if_pos rfl, if_pos hw]
  have := perm_at hy
  rw [erase_set] at this
  refine h.perm (List.Perm.trans List.perm_middle.symm ?_)
  exact .append_left As (this.map f)
end
end WB
namespace WB
open PySem PySem.Spec PyProof.Rows L2
section
variable {X : Cx} (K : PySem.W.Frag)
theorem cr_sumK (h : X.K = K) (hc : X.calm = true) : CallR X (.builtin "sum") (rSum K) := by subst h; exact cr_sum hc
theorem cr_minK (h : X.K = K) (hc : X.calm = true) : CallR X (.builtin "min") (rMin K) := by subst h; exact cr_min hc
theorem cr_maxK (h : X.K = K) (hc : X.calm = true) : CallR X (.builtin "max") (rMax K) := by subst h; exact cr_max hc
end
/-! ### while, by an invariant and a measure -/
def wN (Pv : L2.St → Hp → Prop) (μ : L2.St → Hp → Nat) (m : Nat) : L2.St → Hp → Prop := fun σ H => Pv σ H ∧ μ σ H < m
theorem wN_ok {Pv : L2.St → Hp → Prop} {μ : L2.St → Hp → Nat} {m : Nat} : ∀ σ' H', wN Pv μ m σ' H' → ∃ m', m' < m ∧ m' = μ σ' H' ∧ Pv σ' H' := fun _ _ h => ⟨_, h.2, rfl, h.1⟩
theorem while_w {c : TT} {tb : TS} {D : Ends} {σ : L2.St} {H : Hp} (Pv : L2.St → Hp → Prop) (μ : L2.St → Hp → Nat) (h0 : Pv σ H)
    (hs : ∀ σ H, Pv σ H → c σ H fun b H1 => if b = true then ∃ N : L2.St → Hp → Prop, (∀ σ' H', N σ' H' → ∃ m', m' < μ σ H ∧ m' = μ σ' H' ∧ Pv σ' H') ∧ tb { D with nx := N, ct := N, bk := D.nx } σ H1 else D.nx σ H1) : tWhile c tb D σ H := by
  refine ⟨fun m σ H => m = μ σ H ∧ Pv σ H, ⟨_, rfl, h0⟩, ?_⟩
  rintro m σ H ⟨rfl, p⟩
  exact hs σ H p
/-! ### defs with keyword-only parameters: n written by place, keywords named ks; gV puts them in the parameters' order -/
def CalW (P : Program) (w : World) (K : PySem.W.Frag) (mg : Str → Option Value) (base : Heap) (k : Nat) (nm : Str) (ps : List Str) (n : Nat) (ks : List Str) (gV : List V → List V → List V) (sp : Sp) : Prop :=
  ∃ (f : Addr) (fd : FuncData) (g : List Value → List Value → List Value), FnOk P w K mg base (L2.CX P w) k f fd ps sp ∧ mg nm = some (.ref f) ∧ PySem.W.keepIn K (.ref f) = true ∧ KBn K fd ps n ks g gV
theorem CalW.mono {P : Program} {w : World} {K : PySem.W.Frag} {mg : Str → Option Value} {base : Heap} {j k n : Nat} {nm : Str} {ps ks : List Str} {gV : List V → List V → List V} {sp : Sp} (c : CalW P w K mg base j nm ps n ks gV sp) (h : j ≤ k) : CalW P w K mg base k nm ps n ks gV sp := by
  obtain ⟨f, fd, g, a, b, d, e⟩ := c
  exact ⟨f, fd, g, a.mono h, b, d, e⟩
/-- with the keyword-only ones left out: dvs their values -/
def CalD (P : Program) (w : World) (K : PySem.W.Frag) (mg : Str → Option Value) (base : Heap) (k : Nat) (nm : Str) (ps : List Str) (dvs : List V) (sp : Sp) : Prop :=
  ∃ (f : Addr) (fd : FuncData) (ds : List Value), FnOk P w K mg base (L2.CX P w) k f fd ps sp ∧ mg nm = some (.ref f) ∧ PySem.W.keepIn K (.ref f) = true ∧ Binds K fd ps ds ∧ Vals dvs ds
theorem CalD.mono {P : Program} {w : World} {K : PySem.W.Frag} {mg : Str → Option Value} {base : Heap} {j k : Nat} {nm : Str} {ps : List Str} {dvs : List V} {sp : Sp} (c : CalD P w K mg base j nm ps dvs sp) (h : j ≤ k) : CalD P w K mg base k nm ps dvs sp := by
  obtain ⟨f, fd, g, a, b, d, e⟩ := c
  exact ⟨f, fd, g, a.mono h, b, d, e⟩
/-- new things of the class at C, by keywords -/
def CalNW (P : Program) (w : World) (K : PySem.W.Frag) (mg : Str → Option Value) (base : Heap) (k : Nat) (nm : Str) (C : Addr) (ps ks : List Str) (gV : List V → List V → List V) (sp : Sp) : Prop :=
  ∃ (f : Addr) (fd : FuncData) (g : List Value → List Value → List Value), Mk K C f ∧ FnOk P w K mg base (L2.CX P w) k f fd ps sp ∧ mg nm = some (.ref C) ∧ KBn K fd ps 1 ks g gV
theorem CalNW.mono {P : Program} {w : World} {K : PySem.W.Frag} {mg : Str → Option Value} {base : Heap} {j k : Nat} {nm : Str} {C : Addr} {ps ks : List Str} {gV : List V → List V → List V} {sp : Sp} (c : CalNW P w K mg base j nm C ps ks gV sp) (h : j ≤ k) : CalNW P w K mg base k nm C ps ks gV sp := by
  obtain ⟨f, fd, g, a, b, d, e⟩ := c
  exact ⟨f, fd, g, a, b.mono h, d, e⟩
/-- and with the keyword-only ones left out -/
def CalND (P : Program) (w : World) (K : PySem.W.Frag) (mg : Str → Option Value) (base : Heap) (k : Nat) (nm : Str) (C : Addr) (ps : List Str) (dvs : List V) (sp : Sp) : Prop :=
  ∃ (f : Addr) (fd : FuncData) (ds : List Value), Mk K C f ∧ FnOk P w K mg base (L2.CX P w) k f fd ps sp ∧ mg nm = some (.ref C) ∧ Binds K fd ps ds ∧ Vals dvs ds
theorem CalND.mono {P : Program} {w : World} {K : PySem.W.Frag} {mg : Str → Option Value} {base : Heap} {j k : Nat} {nm : Str} {C : Addr} {ps : List Str} {dvs : List V} {sp : Sp} (c : CalND P w K mg base j nm C ps dvs sp) (h : j ≤ k) : CalND P w K mg base k nm C ps dvs sp := by
  obtain ⟨f, fd, g, a, b, d, e⟩ := c
  exact ⟨f, fd, g, a, b.mono h, d, e⟩
section
variable {X : Cx} {k n : Nat} {C : Addr} {ps ks : List Str} {sp : Sp} {E : XK} {nm : Str} {p pos : Pos} {e : Expr} {es : List Expr} {kws : List Keyword} {t tk : TA} {gV : List V → List V → List V} {dvs : List V}
theorem pe_callW (c : CalW X.prog X.w X.K X.mg X.base k nm ps n ks gV sp) (hr : Room k X.A) (hx : Passes (L2.CX X.prog X.w) X E) (hg : Gl X nm) (ha : PA X (e :: es) t) (hkw : PK X kws tk)
    (hall : (backToKw pos (keywordEach kws X.env)).all (·.1.isSome) = true := by rfl) (hks : (backToKw pos (keywordEach kws X.env)).filterMap (·.1) = ks := by rfl)
    (hdb : (nm == ("__debug__" : Str)) = false := by decide) (he : starEach (e :: es) X.env = (false, eval e X.env) :: starEach es X.env := by rfl)
    (hpl : ((backTo pos (starEach (e :: es) X.env)).any (·.1) || (backToKw pos (keywordEach kws X.env)).any (·.1.isNone)) = false := by rfl) :
    PE X (.Call (.Name nm p) (e :: es) kws pos) (tCallN n ks.length sp gV E t tk) := by
  obtain ⟨f, fd, g, a, b, d, q⟩ := c
  exact pe_callN a hr hg b d q hx ha hkw hall hks hdb he hpl
theorem pe_callWF (c : CalW X.prog X.w X.K X.mg X.base k nm ps n ks gV sp) (hr : Room k X.A) (hg : Gl X nm) (ha : PA X (e :: es) t) (hkw : PK X kws tk)
    (hall : (backToKw pos (keywordEach kws X.env)).all (·.1.isSome) = true := by rfl) (hks : (backToKw pos (keywordEach kws X.env)).filterMap (·.1) = ks := by rfl)
    (hdb : (nm == ("__debug__" : Str)) = false := by decide) (he : starEach (e :: es) X.env = (false, eval e X.env) :: starEach es X.env := by rfl)
    (hpl : ((backTo pos (starEach (e :: es) X.env)).any (·.1) || (backToKw pos (keywordEach kws X.env)).any (·.1.isNone)) = false := by rfl) :
    PE X (.Call (.Name nm p) (e :: es) kws pos) (tCallN n ks.length sp gV E0 t tk) := pe_callW c hr passL hg ha hkw hall hks hdb he hpl
/-- keywords alone -/
theorem pe_callW0 (c : CalW X.prog X.w X.K X.mg X.base k nm ps 0 ks gV sp) (hr : Room k X.A) (hx : Passes (L2.CX X.prog X.w) X E) (hg : Gl X nm) (hkw : PK X kws tk)
    (hall : (backToKw pos (keywordEach kws X.env)).all (·.1.isSome) = true := by rfl) (hks : (backToKw pos (keywordEach kws X.env)).filterMap (·.1) = ks := by rfl) (hdb : (nm == ("__debug__" : Str)) = false := by decide)
    (hpl : ((backTo pos (starEach [] X.env)).any (·.1) || (backToKw pos (keywordEach kws X.env)).any (·.1.isNone)) = false := by rfl) :
    PE X (.Call (.Name nm p) [] kws pos) (tCallN 0 ks.length sp gV E tNil tk) := by
  obtain ⟨f, fd, g, a, b, d, hb⟩ := c
  refine ⟨fun pins s σ H Q I h => wpAny_Call_Name_kw (ld_glob I hg b ?_ hdb)⟩
  refine PySem.W.callWith_KW0 (I.ok.mod.kin) d hall (thn (hkw.run pos pins s σ H _ I h) fun ws s2 x => ?_) hpl
  obtain ⟨zs, H2, I2, rz, l1, l2, q2⟩ := x
  refine ⟨I2.kIn, ?_⟩
  rw [hks]
  exact run_fnN (us := []) (vs := []) a hr hb hx I2 .nil rz rfl l2 q2
theorem pe_callW0F (c : CalW X.prog X.w X.K X.mg X.base k nm ps 0 ks gV sp) (hr : Room k X.A) (hg : Gl X nm) (hkw : PK X kws tk)
    (hall : (backToKw pos (keywordEach kws X.env)).all (·.1.isSome) = true := by rfl) (hks : (backToKw pos (keywordEach kws X.env)).filterMap (·.1) = ks := by rfl) (hdb : (nm == ("__debug__" : Str)) = false := by decide)
    (hpl : ((backTo pos (starEach [] X.env)).any (·.1) || (backToKw pos (keywordEach kws X.env)).any (·.1.isNone)) = false := by rfl) :
    PE X (.Call (.Name nm p) [] kws pos) (tCallN 0 ks.length sp gV E0 tNil tk) := pe_callW0 c hr passL hg hkw hall hks hdb hpl
/-- the keyword-only ones left out -/
theorem pe_callD (c : CalD X.prog X.w X.K X.mg X.base k nm ps dvs sp) (hr : Room k X.A) (hx : Passes (L2.CX X.prog X.w) X E) (hg : Gl X nm) (ha : PA X (e :: es) t) (hdb : (nm == ("__debug__" : Str)) = false := by decide)
    (he : starEach (e :: es) X.env = (false, eval e X.env) :: starEach es X.env := by rfl) (hpl : (backTo pos (starEach es X.env)).any (·.1) = false := by rfl) :
    PE X (.Call (.Name nm p) (e :: es) [] pos) (tCall sp dvs E t) := by
  obtain ⟨f, fd, ds, a, b, d, q, v⟩ := c
  exact pe_call a hr hg b d q v hx ha hdb he hpl
theorem pe_callDF (c : CalD X.prog X.w X.K X.mg X.base k nm ps dvs sp) (hr : Room k X.A) (hg : Gl X nm) (ha : PA X (e :: es) t) (hdb : (nm == ("__debug__" : Str)) = false := by decide)
    (he : starEach (e :: es) X.env = (false, eval e X.env) :: starEach es X.env := by rfl) (hpl : (backTo pos (starEach es X.env)).any (·.1) = false := by rfl) :
    PE X (.Call (.Name nm p) (e :: es) [] pos) (tCall sp dvs E0 t) := pe_callD c hr passL hg ha hdb he hpl
theorem pe_callD0F (c : CalD X.prog X.w X.K X.mg X.base k nm ps dvs sp) (hr : Room k X.A) (hg : Gl X nm) (hdb : (nm == ("__debug__" : Str)) = false := by decide) :
    PE X (.Call (.Name nm p) [] [] pos) (tCall sp dvs E0 tNil) := by
  obtain ⟨f, fd, ds, a, b, d, q, v⟩ := c
  exact pe_call0 a hr hg b d q v passL hdb
theorem pe_makeW (c : CalNW X.prog X.w X.K X.mg X.base k nm C ps ks gV sp) (hr : Room (k + 1) X.A) (hx : Passes (L2.CX X.prog X.w) X E) (hg : Gl X nm) (hkw : PK X kws tk)
    (hall : (backToKw pos (keywordEach kws X.env)).all (·.1.isSome) = true := by rfl) (hks : (backToKw pos (keywordEach kws X.env)).filterMap (·.1) = ks := by rfl) (hdb : (nm == ("__debug__" : Str)) = false := by decide)
    (hpl : ((backTo pos (starEach [] X.env)).any (·.1) || (backToKw pos (keywordEach kws X.env)).any (·.1.isNone)) = false := by rfl) :
    PE X (.Call (.Name nm p) [] kws pos) (tMakeK C 0 ks.length sp gV E tNil tk) := by
  obtain ⟨f, fd, g, a, b, d, hb⟩ := c
  exact pe_makeK0 a b hr hg d hb hx hkw hall hks hdb hpl
theorem pe_makeWF (c : CalNW X.prog X.w X.K X.mg X.base k nm C ps ks gV sp) (hr : Room (k + 1) X.A) (hg : Gl X nm) (hkw : PK X kws tk)
    (hall : (backToKw pos (keywordEach kws X.env)).all (·.1.isSome) = true := by rfl) (hks : (backToKw pos (keywordEach kws X.env)).filterMap (·.1) = ks := by rfl) (hdb : (nm == ("__debug__" : Str)) = false := by decide)
    (hpl : ((backTo pos (starEach [] X.env)).any (·.1) || (backToKw pos (keywordEach kws X.env)).any (·.1.isNone)) = false := by rfl) :
    PE X (.Call (.Name nm p) [] kws pos) (tMakeK C 0 ks.length sp gV E0 tNil tk) := pe_makeW c hr passL hg hkw hall hks hdb hpl
theorem pe_makeDF (c : CalND X.prog X.w X.K X.mg X.base k nm C ps dvs sp) (hr : Room (k + 1) X.A) (hg : Gl X nm) (hdb : (nm == ("__debug__" : Str)) = false := by decide) :
    PE X (.Call (.Name nm p) [] [] pos) (tMake C sp dvs E0 tNil) := by
  obtain ⟨f, fd, ds, a, b, d, hb, v⟩ := c
  exact pe_make0 a b hr hg d hb v passL hdb
end
/-! ### defs as values, called out of a list -/
def tGl (mg : Str → Option Value) (nm : Str) : TE := fun _ H Q => ∀ f, mg nm = some (.ref f) → Q (.ref f) H
def tCall2 (mg : Str → Option Value) (nm1 nm2 : Str) (sp1 sp2 : Sp) (tf : TE) (t : TA) : TE := fun σ H Q => tf σ H fun y H1 => ∃ f, y = .ref f ∧ ((mg nm1 = some (.ref f) ∧ t σ H1 fun vs H2 => sp1 (vs ++ []) H2 Q E0) ∨ (mg nm2 = some (.ref f) ∧ t σ H1 fun vs H2 => sp2 (vs ++ []) H2 Q E0))
section
variable {X : Cx} {k : Nat} {nm nm1 nm2 : Str} {ps ps1 ps2 : List Str} {sp sp1 sp2 : Sp} {fe e : Expr} {es : List Expr} {tf : TE} {t : TA} {p pos : Pos}
theorem pe_gl (c : Cal X.prog X.w X.K X.mg X.base k nm ps sp) (mg : Str → Option Value) (hm : X.mg = mg) (hg : Gl X nm) (hdb : (nm == ("__debug__" : Str)) = false := by decide) : PE X (.Name nm p) (tGl mg nm) := by
  subst hm
  obtain ⟨f, fd, a, b, d, g⟩ := c
  refine ⟨fun pins s σ H Q I h => ?_⟩
  exact (pe_glob (v := .ref f) (pos := p) hg b rfl hdb).run pins s σ H Q I (h f b)
theorem pe_call2 (c1 : Cal X.prog X.w X.K X.mg X.base k nm1 ps1 sp1) (c2 : Cal X.prog X.w X.K X.mg X.base k nm2 ps2 sp2) (mg : Str → Option Value) (hm : X.mg = mg) (hf : PE X fe tf) (hr : Room k X.A) (ha : PA X (e :: es) t)
    (ht : eval (.Call fe (e :: es) [] pos) X.env = (do callWith pos (← eval fe X.env) [] (backTo pos (starEach (e :: es) X.env)) (backToKw pos (keywordEach [] X.env))) := by rfl)
    (he : starEach (e :: es) X.env = (false, eval e X.env) :: starEach es X.env := by rfl) (hpl : (backTo pos (starEach es X.env)).any (·.1) = false := by rfl) : PE X (.Call fe (e :: es) [] pos) (tCall2 mg nm1 nm2 sp1 sp2 tf t) := by
  subst hm
  obtain ⟨f1, fd1, a1, b1, d1, g1⟩ := c1
  obtain ⟨f2, fd2, a2, b2, d2, g2⟩ := c2
  refine ⟨fun pins s σ H Q I h => ?_⟩
  refine Call_ (thn (hf.run pins s σ H _ I h) fun u s1 ⟨y, H1, I1, ry, f, ey, q⟩ => ?_) ht
  subst ey
  obtain rfl : u = Value.ref f := ry
  rcases q with ⟨m, q⟩ | ⟨m, q⟩
  · obtain rfl : f1 = f := by
      rw [b1] at m
      cases m
      rfl
    refine PySem.W.callWith_K (h₀ := X.base) I.ok.mod.kin d1 (thn (ha.run pos pins s1 σ _ _ I1 q) fun us s2 ⟨vs, H2, I2, r, q⟩ => ⟨I2.kIn, ?_⟩) he hpl
    exact run_fn a1 hr g1 .nil pass0 I2 r q
  · obtain rfl : f2 = f := by
      rw [b2] at m
      cases m
      rfl
    refine PySem.W.callWith_K (h₀ := X.base) I.ok.mod.kin d2 (thn (ha.run pos pins s1 σ _ _ I1 q) fun us s2 ⟨vs, H2, I2, r, q⟩ => ⟨I2.kIn, ?_⟩) he hpl
    exact run_fn a2 hr g2 .nil pass0 I2 r q
end
section
variable {K : PySem.W.Frag} {x qual y : Str} {params : Arguments} {body : List Stmt} {scope : Scope} {kws : List (Str × V)} {f : Addr} {fd : FuncData} {ps : List Str} {v : V}
theorem kbn_app (F : FunD K x qual params body scope [] kws f fd) (n : Nat) (ks : List Str) (hk : kws ≠ [])
    (h : ∀ (D : Addr) (doc pm : Value) (an : Option Addr) (cdv ct : Value) (us ws : List Value), us.length = n → ws.length = ks.length → bindArgs (PySem.W.fnOf x qual params body scope .none (.ref D) doc pm an cdv ct) ⟨us, ks.zip ws⟩ = pure (ps.zip (us ++ ws))) :
    ∃ g, KBn K fd ps n ks g (fun vs zs => vs ++ zs) := by
  obtain ⟨mv, h⟩ := F.kbinds0 (ps := ps) n ks [] (fun {α} us mv ws => us ++ ws) hk (fun q hq => by cases hq) (fun r1 _ r3 => r1.append r3) (fun D doc pm an cdv ct us mv ws l1 l2 l3 => by
    have : mv = [] := List.eq_nil_of_length_eq_zero l2
    subst this
    exact h D doc pm an cdv ct us ws l1 l3)
  exact ⟨_, h⟩
/-- two keywords, in the other order -/
theorem kbn_two (F : FunD K x qual params body scope [] kws f fd) (ks : List Str) (hk : kws ≠ []) (h2 : ks.length = 2)
    (h : ∀ (D : Addr) (doc pm : Value) (an : Option Addr) (cdv ct : Value) (u v : Value), bindArgs (PySem.W.fnOf x qual params body scope .none (.ref D) doc pm an cdv ct) ⟨[], ks.zip [u, v]⟩ = pure (ps.zip [v, u])) :
    ∃ g, KBn K fd ps 0 ks g (fun vs zs => vs ++ two zs) := by
  obtain ⟨mv, h⟩ := F.kbinds0 (ps := ps) 0 ks [] (fun {α} us mv ws => us ++ two ws) hk (fun q hq => by cases hq) (fun r1 _ r3 => r1.append (by
    cases r3 with
    | nil => exact .nil
    | cons a r => cases r with
      | nil => exact .nil
      | cons b r => cases r with
        | nil => exact .cons b (.cons a .nil)
        | cons _ _ => exact .nil)) (fun D doc pm an cdv ct us mv ws l1 l2 l3 => by
    have : mv = [] := List.eq_nil_of_length_eq_zero l2
    subst this
    have : us = [] := List.eq_nil_of_length_eq_zero l1
    subst this
    rw [h2] at l3
    match ws, l3 with
    | [u, v], _ => exact h D doc pm an cdv ct u v)
  exact ⟨_, h⟩
theorem dfl_one (F : FunD K x qual params body scope [] [(y, v)] f fd) (n : Nat) (hn : n + 1 = ps.length)
    (h : ∀ (D : Addr) (doc pm : Value) (an : Option Addr) (cdv ct : Value) (us : List Value) (u : Value), us.length = n → KwChain D [(y, u)] (bindArgs (PySem.W.fnOf x qual params body scope .none (.ref D) doc pm an cdv ct) ⟨us, []⟩) (ps.zip (us ++ [u]))) :
    ∃ ds, Vals [v] ds ∧ Binds K fd ps ds := F.binds0 n (by intro z; cases z) hn (fun D doc pm an cdv ct us ks l1 l2 => by
  match ks, l2 with
  | [u], _ => exact h D doc pm an cdv ct us u l1)
theorem funD_one {oc : Value} {od an : Option Addr} {dc pm cd ct : Value} {sl : Array (Option Value)} {D : Addr} {u : Value} (l : K.lookup f = some ⟨oc, od, .func (PySem.W.fnOf x qual params body scope .none (.ref D) dc pm an cd ct), sl⟩) (c : PySem.W.codeIn K cd qual = true) (k : PySem.W.keepIn K (.ref f) = true)
    (n : PySem.W.nsIn K D y = some (some u)) (r : RelV v u) : FunD K x qual params body scope [] [(y, v)] f (PySem.W.fnOf x qual params body scope .none (.ref D) dc pm an cd ct) :=
  ⟨⟨_, _, _, _, _, _, _, _, _, _, rfl, l, c, .inl ⟨rfl, rfl⟩, .inr ⟨D, rfl, fun q hq => by rw [List.mem_singleton.mp hq]; exact ⟨u, n, r⟩⟩⟩, k⟩
end
end WB
namespace WB
open PySem PySem.Spec PyProof.Rows L2
/-! ### many things of one kind, as one -/
section
variable {α : Type} {T0 : List (Addr × Str)} {Ts : List Th} {Y : List α} {f : α → Th} {i j : Nat} {y y' z : α} {H H' : Hp} {N : Th}
theorem mem_tG {a : Addr} : a ∈ (tG (Y.map f)).ft ↔ ∃ y ∈ Y, a ∈ (f y).ft := by
  show a ∈ (Y.map f).flatMap (·.ft) ↔ _
  rw [List.mem_flatMap]
  constructor
  · rintro ⟨T, hT, ha⟩
    obtain ⟨y, hy, rfl⟩ := List.mem_map.mp hT
    exact ⟨y, hy, ha⟩
  · rintro ⟨y, hy, ha⟩
    exact ⟨f y, List.mem_map.mpr ⟨y, hy, rfl⟩, ha⟩
theorem map_at (hj : Y[j]? = some y) : (Y.map f)[j]? = some (f y) := by
  rw [List.getElem?_map, hj]
  rfl
theorem Hs.gget (h : Hs T0 Ts H) (i : Nat) (hi : Ts[i]? = some (tG (Y.map f))) (hj : Y[j]? = some y) : (f y).P H := by
  have g : Hs [] (Y.map f) H := h.get i hi
  exact g.get j (map_at hj)
theorem gset_ft (hj : Y[j]? = some y) (hf : ∀ a ∈ (f y').ft, a ∈ (f y).ft ∨ H a = none) : ∀ a ∈ (tG ((Y.set j y').map f)).ft, a ∈ (tG (Y.map f)).ft ∨ H a = none := fun a ha => by
  obtain ⟨z, hz, ha⟩ := mem_tG.mp ha
  rcases List.mem_or_eq_of_mem_set hz with q | q
  · exact .inl (mem_tG.mpr ⟨z, q, ha⟩)
  · rw [q] at ha
    exact (hf a ha).imp (fun x => mem_tG.mpr ⟨y, List.mem_of_getElem? hj, x⟩) id
theorem gset_P {F : List Addr} (g : Hs [] (Y.map f) H) (hj : Y[j]? = some y) (m : MvF F H H') (hF : ∀ a ∈ F, a ∈ (f y).ft ∨ H a = none) (hp : (f y').P H') (hf : ∀ a ∈ (f y').ft, a ∈ (f y).ft ∨ H a = none) : (tG ((Y.set j y').map f)).P H' := by
  have := g.op (T' := f y') j (map_at hj) m hF hp hf
  rw [← List.map_set] at this
  exact this
theorem Hs.gset {F : List Addr} (h : Hs T0 Ts H) (i : Nat) (hi : Ts[i]? = some (tG (Y.map f))) (hj : Y[j]? = some y) (m : MvF F H H') (hF : ∀ a ∈ F, a ∈ (f y).ft ∨ H a = none) (hp : (f y').P H') (hf : ∀ a ∈ (f y').ft, a ∈ (f y).ft ∨ H a = none) : Hs T0 (Ts.set i (tG ((Y.set j y').map f))) H' :=
  h.op i hi m (fun a ha => (hF a ha).imp (fun x => mem_tG.mpr ⟨y, List.mem_of_getElem? hj, x⟩) id) (gset_P (h.get i hi) hj m hF hp hf) (gset_ft hj hf)
/-- the j-th changes, and a new one comes -/
theorem Hs.gsetN {F : List Addr} (h : Hs T0 Ts H) (i : Nat) (hi : Ts[i]? = some (tG (Y.map f))) (hj : Y[j]? = some y) (m : MvF F H H') (hF : ∀ a ∈ F, a ∈ (f y).ft ∨ H a = none) (hp : (f y').P H') (hf : ∀ a ∈ (f y').ft, a ∈ (f y).ft ∨ H a = none)
    (hn : N.P H') (hnf : ∀ a ∈ N.ft, H a = none ∧ a ∉ (f y').ft) : Hs T0 (N :: Ts.set i (tG ((Y.set j y').map f))) H' := by
  refine h.opNew i hi m (fun a ha => (hF a ha).imp (fun x => mem_tG.mpr ⟨y, List.mem_of_getElem? hj, x⟩) id) (gset_P (h.get i hi) hj m hF hp hf) (gset_ft hj hf) hn (fun a ha => ⟨(hnf a ha).1, fun q => ?_⟩)
  obtain ⟨z, hz, hz2⟩ := mem_tG.mp q
  rcases List.mem_or_eq_of_mem_set hz with q | q
  · have g : Hs [] (Y.map f) H := h.get i hi
    obtain ⟨k, hk⟩ := List.getElem?_of_mem q
    exact (f z).live (g.get k (map_at hk)) hz2 (hnf a ha).1
  · rw [q] at hz2
    exact (hnf a ha).2 hz2
theorem Hs.gadd (h : Hs T0 (f z :: tG (Y.map f) :: Ts) H) : Hs T0 (tG ((Y ++ [z]).map f) :: Ts) H := by
  have h1 := h.swap.ungroup
  rw [show Y.map f ++ f z :: Ts = (Y ++ [z]).map f ++ Ts by simp] at h1
  exact h1.group
theorem Hs.gnil (h : Hs T0 Ts H) : Hs T0 (tG (([] : List α).map f) :: Ts) H := Hs.group (Ts := []) h
end
theorem map_set_same {α β : Type} {f : α → β} {Y : List α} {w : Nat} {x x' : α} (h : Y[w]? = some x) (e : f x' = f x) : (Y.set w x').map f = Y.map f := by
  rw [List.map_set, e]
  apply List.ext_getElem?
  intro i
  rw [List.getElem?_set]
  by_cases z : w = i
  · subst z
    rw [if_pos rfl, List.getElem?_map, h, List.length_map, if_pos (List.getElem?_eq_some_iff.mp h).1]
    rfl
  · rw [if_neg z]
theorem const_by {v : V} {i : Nat} {u : TS} {D : Ends} {σ : L2.St} {H : Hp} (h : u D (σ.set i (some v)) H) : tSeq (tAsg (tC v) (gName i)) u D σ H := h
theorem getElem?_ex {α : Type} {l : List α} {i : Nat} (h : i < l.length) : ∃ x, l[i]? = some x := ⟨_, List.getElem?_eq_getElem h⟩
end WB
namespace WB
open PySem PySem.Spec PyProof.Rows L2
/-! ### tuples of ints, ordered -/
def tupD (t : List Int) : PyData := .tuple (t.map PyData.int)
/-- the first difference decides -/
def lexB : List Int → List Int → Bool
  | [], [] => false
  | [], _ :: _ => true
  | _ :: _, [] => false
  | x :: xs, y :: ys => if x = y then lexB xs ys else decide (x < y)
theorem lexB_eq : ∀ xs ys : List Int, PySem.W.listLt xs ys = lexB xs ys
  | [], [] => rfl
  | [], _ :: _ => rfl
  | _ :: _, [] => rfl
  | x :: xs, y :: ys => by
    unfold PySem.W.listLt lexB
    rw [lexB_eq xs ys]
    rfl
theorem dataLt_tup (s t : List Int) : PySem.W.dataLt (tupD s) (tupD t) = lexB s t := by
  have h := PySem.W.DatumOrd.lt_eq (α := PySem.W.Tup Int) ⟨s⟩ ⟨t⟩
  rw [← lexB_eq]
  exact h
def minT (x : List Int) (r : List (List Int)) : List Int := r.foldl (fun a y => if lexB y a = true then y else a) x
theorem minD_tup : ∀ (r : List (List Int)) (x : List Int), PySem.W.minD (tupD x) (r.map tupD) = tupD (minT x r)
  | [], x => rfl
  | y :: r, x => by
    show (r.map tupD).foldl _ (if PySem.W.dataLt (tupD y) (tupD x) = true then tupD y else tupD x) = tupD (r.foldl _ (if lexB y x = true then y else x))
    rw [dataLt_tup]
    cases lexB y x with
    | true => exact minD_tup r y
    | false => exact minD_tup r x
theorem alike_tup (s t : List Int) : PySem.W.alike (tupD s) (tupD t) = true := PySem.W.DatumOrd.alike (α := PySem.W.Tup Int) ⟨s⟩ ⟨t⟩
theorem depth_tups : ∀ ts : List (List Int), PyData.depthAll (ts.map tupD) ≤ 1
  | [] => Nat.zero_le _
  | t :: ts => by
    show max (PyData.depthAll (t.map PyData.int) + 1) (PyData.depthAll (ts.map tupD)) ≤ 1
    rw [depth_ints]
    exact Nat.max_le.mpr ⟨Nat.le_refl _, depth_tups ts⟩
section
variable {K : PySem.W.Frag}
theorem dpa_at {H : Hp} : ∀ {xs : List V} {ds : List PyData} {i : Nat} {x : V}, DpAll K H xs ds → xs[i]? = some x → ∃ d, ds[i]? = some d ∧ Dp K H x d
  | _, _, _, _, .nil, e => by simp at e
  | _, _, 0, _, .cons h _, e => by simp at e; subst e; exact ⟨_, rfl, h⟩
  | _, _, i + 1, x, .cons _ t, e => by
    obtain ⟨d, h1, h2⟩ := dpa_at (i := i) (x := x) t (by simpa using e)
    exact ⟨d, by simpa using h1, h2⟩
theorem dpa_int_inv {H : Hp} : ∀ {t : List Int} {xs : List V}, DpAll K H xs (t.map PyData.int) → xs = t.map V.int
  | [], _, .nil => rfl
  | _ :: _, _, .cons h r => by
    cases h
    rw [dpa_int_inv r]
    rfl
theorem dp_tup_inv {H : Hp} {v : V} {t : List Int} (h : Dp K H v (tupD t)) : ∃ p, v = .ref p ∧ SqT K H p (t.map V.int) := by
  cases h with
  | tup hs ha => exact ⟨_, rfl, by rw [← dpa_int_inv ha]; exact hs⟩
theorem dp_tup {H : Hp} {p : Addr} {t : List Int} (h : SqT K H p (t.map V.int)) : Dp K H (.ref p) (tupD t) := .tup h (dpa_ints t)
end
theorem tupD_inj {s t : List Int} (h : tupD s = tupD t) : s = t := by
  have h1 : s.map PyData.int = t.map PyData.int := PyData.tuple.inj h
  exact List.map_inj_right (fun _ _ e => PyData.int.inj e) |>.mp h1
/-- min of a list of tuples of ints: one of them, whose numbers are the least -/
def rMinT (K : PySem.W.Frag) : List V → Hp → VK → Prop := fun vs H Q => ∃ (a : Addr) (xs : List V) (x : List Int) (r : List (List Int)), vs = [.ref a] ∧ SqL K H a xs ∧ DpAll K H xs ((x :: r).map tupD) ∧ ∀ (i : Nat) (p : Addr), xs[i]? = some (.ref p) → (x :: r)[i]? = some (minT x r) → SqT K H p ((minT x r).map V.int) → Q (.ref p) H
theorem vals_at {xs : List V} {us : List Value} (h : Vals xs us) : ∀ {i : Nat} {u : Value}, us[i]? = some u → ∃ x, xs[i]? = some x ∧ RelV x u := by
  induction h with
  | nil => intro i u e; simp at e
  | cons a r ih =>
    intro i u e
    cases i with
    | zero => simp at e; subst e; exact ⟨_, rfl, a⟩
    | succ i =>
      obtain ⟨x, h1, h2⟩ := ih (i := i) (u := u) (by simpa using e)
      exact ⟨x, by simpa using h1, h2⟩
section
variable {X : Cx}
theorem cr_minT (hu : X.A.units + 64 < cLine) (hc : X.calm = true) : CallR X (.builtin "min") (rMinT X.K) := by
  intro pins s σ H vs us Q I r h
  obtain ⟨a, xs, x, rs, rfl, hs, hd, q⟩ := h
  obtain ⟨its, rv, hl, _⟩ := I.list hs
  rw [Vals.ref1 r]
  obtain ⟨as, hr⟩ := Dp.readsAll I _ _ _ hd rv
  have hdep := depth_tups (x :: rs)
  refine PySem.W.min_list_data (vs := its.toArray) (x := tupD x) (xs := rs.map tupD) (I.ok.hd hc) hl.isList hr ⟨?_, ?_⟩ ?_ fun i v h' tk bs hi hv hk => ?_
  · intro y hy z hz
    obtain ⟨t1, _, rfl⟩ := List.mem_map.mp (show y ∈ (x :: rs).map tupD from hy)
    obtain ⟨t2, _, rfl⟩ := List.mem_map.mp (show z ∈ (x :: rs).map tupD from hz)
    exact alike_tup t1 t2
  · intro y hy
    obtain ⟨t1, _, rfl⟩ := List.mem_map.mp (show y ∈ (x :: rs).map tupD from hy)
    exact fun z => by cases z
  · have e : PyData.depthAll (tupD x :: rs.map tupD) ≤ 1 := hdep
    omega
  · rw [minD_tup] at hv
    obtain ⟨xv, h1, h2⟩ := vals_at rv (i := i) (u := v) (by simpa using hi)
    obtain ⟨d, e1, e2⟩ := dpa_at hd h1
    obtain ⟨cs, hv2⟩ := Dp.reads I d xv v e2 h2
    have e3 := (reads_det (h := s.heap) (h' := h') (fun b o e _ => hk b o e) hv2 hv).1
    rw [← e3] at e1 e2
    obtain ⟨p, rfl, hp⟩ := dp_tup_inv e2
    have e4 : (x :: rs)[i]? = some (minT x rs) := by
      rw [List.getElem?_map] at e1
      cases e5 : (x :: rs)[i]? with
      | none => rw [e5] at e1; cases e1
      | some t =>
        rw [e5] at e1
        rw [tupD_inj (Option.some.inj e1)]
    exact ⟨.ref p, H, I.kept hk, h2, q i p h1 e4 hp⟩
theorem cr_minTK (K : PySem.W.Frag) (h : X.K = K) (hu : X.A.units + 64 < cLine) (hc : X.calm = true) : CallR X (.builtin "min") (rMinT K) := by subst h; exact cr_minT hu hc
end
end WB
namespace WB
open PySem PySem.Spec PyProof.Rows L2
theorem mt_lcountK {X : Cx} (K : PySem.W.Frag) (h : X.K = K) : MtR X "list.count" (rCntI K) := by subst h; exact mt_lcount
theorem eq_t {a b : Int} (e : decide (V.int a = V.int b) = true) : a = b := V.int.inj (of_decide_eq_true e)
theorem eq_f {a b : Int} (e : ¬ decide (V.int a = V.int b) = true) : a ≠ b := fun z => e (decide_eq_true (congrArg V.int z))
theorem ne_t {a b : Int} (e : (!decide (V.int a = V.int b)) = true) : a ≠ b := fun z => by
  rw [decide_eq_true (congrArg V.int z)] at e
  cases e
theorem ne_f {a b : Int} (e : ¬ (!decide (V.int a = V.int b)) = true) : a = b := by
  by_cases z : a = b
  · exact z
  · exact absurd (by rw [decide_eq_false (fun y => z (V.int.inj y))]; rfl) e
end WB
namespace WB
open PySem PySem.Spec PyProof.Rows L2
/-! ### zip of two sequences, each a list (true) or a tuple (false) -/
def SqK (K : PySem.W.Frag) : Bool → Hp → Addr → List V → Prop
  | true, H, a, xs => SqL K H a xs
  | false, H, a, xs => SqT K H a xs
def KIt : Bool → Heap → Addr → Addr → Nat → Prop
  | true, h, it, a, i => h.IsListIter it a i
  | false, h, it, a, i => h.IsTupleIter it a i
def KSeq : Bool → Heap → Addr → Array Value → Prop
  | true, h, a, vs => h.IsList a vs
  | false, h, a, vs => h.IsTuple a vs
def kItO : Bool → Addr → Obj
  | true, a => { cls := .type "list_iterator", data := .fields #[.ref a, .int 0 0] }
  | false, a => { cls := .type "tuple_iterator", data := .fields #[.ref a, .int 0 0] }
theorem draws_k {P : Program} {w : World} {A : Around} (k : Bool) (hh : A.handled = none) (it l : Addr) (hne : l ≠ it) (vs : Array Value) :
    Draws P w A it [it, l] vs.size (fun i v => vs[i]? = some v) (fun i h => KIt k h it l i ∧ KSeq k h l vs) := by
  cases k with
  | true => exact Draws.list hh it l hne vs
  | false => exact Draws.tuple hh it l hne vs
theorem begins_k (k : Bool) (l : Addr) (vs : Array Value) : Begins (.ref l) (kItO k l) (fun h => KSeq k h l vs) := by
  cases k with
  | true => exact begins_list l vs
  | false => exact begins_tuple l vs
theorem kit_at {k : Bool} {h h' : Heap} {it a : Addr} {i : Nat} (x : KIt k h it a i) (e : ∀ o, h.get? it = some o → h'.get? it = some o) : KIt k h' it a i := by
  cases k with
  | true => exact Heap.IsListIter.at x e
  | false => exact Heap.IsTupleIter.at x e
theorem kit_obj {k : Bool} {h : Heap} {it a : Addr} {i : Nat} (x : KIt k h it a i) : ∃ o, h.get? it = some o ∧ ∀ v, o.data ≠ .cell v := by
  cases k with
  | true =>
    obtain ⟨o, e, _, d⟩ := x
    exact ⟨o, e, fun v q => by rw [d] at q; cases q⟩
  | false =>
    obtain ⟨o, e, _, d⟩ := x
    exact ⟨o, e, fun v q => by rw [d] at q; cases q⟩
theorem kit_new {k : Bool} {h : Heap} {it a : Addr} (e : h.get? it = some (kItO k a)) : KIt k h it a 0 := by
  cases k with
  | true => exact ⟨_, e, rfl, rfl⟩
  | false => exact ⟨_, e, rfl, rfl⟩
section
variable {X : Cx} {pins : List (Addr × Obj)} {σ : L2.St} {H : Hp} {s : Shared} {k : Bool} {a : Addr} {xs ys : List V}
theorem SqK.read (I : Inv X pins σ H s) (h : SqK X.K k H a xs) : ∃ its : List Value, Vals xs its ∧ KSeq k s.heap a its.toArray ∧ a < s.heap.objs.size := by
  cases k with
  | true =>
    obtain ⟨its, r, p, _⟩ := I.list h
    exact ⟨its, r, p.isList, p.lt⟩
  | false =>
    obtain ⟨its, r, p, _⟩ := I.tuple h
    obtain ⟨o, e, _⟩ := id p
    exact ⟨its, r, p, Heap.lt_size e⟩
theorem SqK.inj (I : Inv X pins σ H s) (h : SqK X.K k H a xs) (h' : SqK X.K k H a ys) : xs = ys := by
  cases k with
  | true => exact I.list_inj h h'
  | false => exact I.tuple_inj h h'
end
theorem SqK.same {K : PySem.W.Frag} {k : Bool} {H H' : Hp} {a : Addr} {xs : List V} (e : Same H H') (h : SqK K k H a xs) : SqK K k H' a xs := by
  cases k with
  | true => exact e.seq h
  | false => exact same_t e h
def Itz2 (K : PySem.W.Frag) (k1 k2 : Bool) (a b : Addr) : It where
  go i H := ∃ (xs ys : List V) (x y : V), SqK K k1 H a xs ∧ SqK K k2 H b ys ∧ xs[i]? = some x ∧ ys[i]? = some y
  yld i H v H' := ∃ (T : Addr) (x y : V), v = .ref T ∧ H T = none ∧ H' = upd H T (.tup [x, y]) ∧ (∀ l, SqK K k1 H a l → l[i]? = some x) ∧ ∀ l, SqK K k2 H b l → l[i]? = some y
  stop i H := ∃ (xs ys : List V), SqK K k1 H a xs ∧ SqK K k2 H b ys ∧ i ≤ xs.length ∧ i ≤ ys.length ∧ (i = xs.length ∨ i = ys.length)
theorem of5 {c z TI TO i1 i2 : Addr} (h : c ∈ [z, TI, TO, i1, i2]) : c = z ∨ c = TI ∨ c = TO ∨ c = i1 ∨ c = i2 := by simpa using h
theorem turn_z2 {P : Program} {w : World} {K : PySem.W.Frag} {elts : List Expr} {kk : Nat} {tpos : Pos} {k1 k2 : Bool} {a b z TI TO i1 i2 : Addr} (S : ZipSep2 z TI TO i1 i2 [i1, a] [i2, b]) (n1 : a ≠ i1) (n2 : b ≠ i2) :
    Turn P w K (.Tuple elts kk tpos) (Itz2 K k1 k2 a b) [z, TI, TO, i1, i2] z (fun i h => IsZip h z TI TO .none ∧ IsTupOf2 h TI (.ref i1) (.ref i2) ∧ (∃ x y, IsTupOf2 h TO x y) ∧ KIt k1 h i1 a i ∧ KIt k2 h i2 b i) where
  mem := .head _
  obj := by
    rintro i h ⟨hz, hI, ⟨x, y, hO⟩, h1, h2⟩ c hc
    rcases of5 hc with rfl | rfl | rfl | rfl | rfl
    · exact ⟨_, hz, fun v q => nomatch q⟩
    · exact ⟨_, hI, fun v q => nomatch q⟩
    · exact ⟨_, hO, fun v q => nomatch q⟩
    · exact kit_obj h1
    · exact kit_obj h2
  keep := by
    rintro i h h' ⟨hz, hI, ⟨x, y, hO⟩, h1, h2⟩ kp
    exact ⟨kp z (by simp) _ hz, kp TI (by simp) _ hI, ⟨x, y, kp TO (by simp) _ hO⟩, kit_at h1 (fun o => kp i1 (by simp) o), kit_at h2 (fun o => kp i2 (by simp) o)⟩
  item := by
    intro X hP hw hK hc i pins s σ H E I hf st hg
    subst hP hw hK
    obtain ⟨hz, hI, ⟨x0, y0, hO⟩, h1, h2⟩ := st
    obtain ⟨xs, ys, x, y, qx, qy, ex, ey⟩ := hg
    obtain ⟨us, ru, pu, _⟩ := qx.read I
    obtain ⟨vs, rv, pv, _⟩ := qy.read I
    obtain ⟨u, hu, rxu⟩ := ru.get ex
    obtain ⟨v, hv, ryv⟩ := rv.get ey
    have lz : z < s.heap.objs.size := Heap.lt_size hz
    have hh : X.A.in1.handled = none := I.ok.hd hc
    refine wpAny_pyNext_zipD2_item S (draws_k k1 hh i1 a n1 us.toArray) (draws_k k2 hh i2 b n2 vs.toArray) hz hI hO ⟨h1, pu⟩ ⟨h2, pv⟩ (by simpa using (List.getElem?_eq_some_iff.mp hu).1) (by simpa using (List.getElem?_eq_some_iff.mp hv).1) fun u' v' h' tk hu' hv' z' O' t1 t2 hT hsz keep => ?_
    obtain rfl : u = u' := by
      have : us[i]? = some u' := by simpa using hu'
      rw [hu] at this
      exact Option.some.inj this
    obtain rfl : v = v' := by
      have : vs[i]? = some v' := by simpa using hv'
      rw [hv] at this
      exact Option.some.inj this
    refine ⟨_, rfl, wpAny_letOwnedTupleGo_zip (s := { s with heap := h', toks := tk }) z' fun h'' z'' sb => ?_⟩
    have hT2 : h''.get? s.heap.objs.size = some { cls := .type "tuple", data := .seq #[u, v] } := (sb.2 _ (Nat.ne_of_gt lz)).trans hT
    have J : Inv X pins σ (upd H s.heap.objs.size (.tup [x, y])) { s with heap := h'', toks := tk } :=
      I.turnedNew (ch := [z, TI, TO, i1, i2]) (fun c o nc q => by
        have m : ∀ d, d ∈ [z, TI, TO, i1, i2] → c ≠ d := fun d hd e => nc (e ▸ hd)
        rw [sb.2 c (m z (by simp))]
        exact keep c o (m z (by simp)) (m TO (by simp)) (m i1 (by simp)) (m i2 (by simp)) q) hf (Nat.le_refl _) ⟨by show 2 ≤ sizeLine; decide, [u, v], .cons rxu (.cons ryv .nil), _, hT2, rfl, _, rfl⟩
    refine ⟨.ref s.heap.objs.size, _, J, rfl, ⟨_, x, y, rfl, I.hok.fresh (Nat.le_refl _), rfl, fun l hl => by rw [hl.inj I qx]; exact ex, fun l hl => by rw [hl.inj I qy]; exact ey⟩, ⟨z'', ?_, ⟨u, v, ?_⟩, ?_, ?_⟩, fun c hcm => ?_⟩
    · exact (sb.2 _ S.TIz).trans (keep _ _ S.TIz S.TITO S.TIi1 S.TIi2 hI)
    · exact (sb.2 _ S.TOz).trans O'
    · exact kit_at t1.1 (fun o q => (sb.2 _ S.zi1.symm).trans q)
    · exact kit_at t2.1 (fun o q => (sb.2 _ S.zi2.symm).trans q)
    · have lt : c < s.heap.objs.size := by
        rcases of5 hcm with rfl | rfl | rfl | rfl | rfl
        · exact lz
        · exact Heap.lt_size hI
        · exact Heap.lt_size hO
        · obtain ⟨o, e, _⟩ := kit_obj h1
          exact Heap.lt_size e
        · obtain ⟨o, e, _⟩ := kit_obj h2
          exact Heap.lt_size e
      rw [upd_ne (Nat.ne_of_lt lt)]
      exact (hf c hcm).1
  done := by
    intro X hP hw hK hc i pins s σ H E I hf st hg
    subst hP hw hK
    obtain ⟨hz, hI, ⟨x0, y0, hO⟩, h1, h2⟩ := st
    obtain ⟨xs, ys, qx, qy, l1, l2, he⟩ := hg
    obtain ⟨us, ru, pu, _⟩ := qx.read I
    obtain ⟨vs, rv, pv, _⟩ := qy.read I
    have e1 := ru.length
    have e2 := rv.length
    have hh : X.A.in1.handled = none := I.ok.hd hc
    refine wpAny_pyNext_zipD2_end S (draws_k k1 hh i1 a n1 us.toArray) (draws_k k2 hh i2 b n2 vs.toArray) hz hI hO ⟨h1, pu⟩ ⟨h2, pv⟩ (by simp; omega) (by simp; omega) (by simp; omega) fun h' tk keep => ⟨rfl, ?_⟩
    exact I.turnedL (ch := [z, TI, TO, i1, i2]) (fun c o nc q => by
      have m : ∀ d, d ∈ [z, TI, TO, i1, i2] → c ≠ d := fun d hd e => nc (e ▸ hd)
      exact keep c o (m z (by simp)) (m TO (by simp)) (m i1 (by simp)) (m i2 (by simp)) q) hf
  self := fun A i s Q E st h => wpAny_pyIter_zip st.1 h
def iZip2 (K : PySem.W.Frag) (ta : TA) : TI := fun σ H R => ta σ H fun vs H1 => ∃ (a b : Addr) (k1 k2 : Bool) (xs ys : List V), vs = [.ref a, .ref b] ∧ SqK K k1 H1 a xs ∧ SqK K k2 H1 b ys ∧ R (Itz2 K k1 k2 a b) H1
theorem pi_zip2 {X : Cx} (K : PySem.W.Frag) (hKK : X.K = K) {e e2 : Expr} {ta : TA} {p pos tpos : Pos} {elts : List Expr} {kk : Nat} (hg : Gl X "zip") (hm : X.mg "zip" = none) (ha : PA X [e, e2] ta)
    (hs : starEach [e, e2] X.env = (false, eval e X.env) :: starEach [e2] X.env := by rfl) (hpl : (backTo pos (starEach [e2] X.env)).any (·.1) = false := by rfl) :
    PI X (.Tuple elts kk tpos) (.Call (.Name "zip" p) [e, e2] [] pos) (iZip2 K ta) := by
  subst hKK
  refine ⟨fun pins s σ H R I h => ?_⟩
  refine Call_ (ld_blt I hg hm PyProof.Rows.boot_zip (PyProof.Rows.callWith_type1 (thn (ha.run pos pins s σ H _ I h) fun us s1 y => ?_) hs hpl))
  obtain ⟨vs, H1, I1, r1, a, b, k1, k2, xs, ys, rfl, qx, qy, q⟩ := y
  cases r1 with
  | cons r rr =>
    cases rr with
    | cons r' rr =>
      cases rr
      cases r
      cases r'
      obtain ⟨us, ru, pu, la⟩ := qx.read I1
      obtain ⟨ws, rw_, pw, lb⟩ := qy.read I1
      refine zip_begins2 (begins_k k1 a us.toArray) (begins_k k2 b ws.toArray) pu pw fun h' hz hI hO g1 g2 hsz keep => wpAny_pyIter_zip hz ?_
      refine ⟨s1.heap.objs.size + 4, [s1.heap.objs.size + 4, s1.heap.objs.size + 2, s1.heap.objs.size + 3, s1.heap.objs.size, s1.heap.objs.size + 1], _, _, H1, rfl, I1.kept (t' := s1.toks) keep, turn_z2 (zip_sep2 (N := s1.heap.objs.size) (fp1 := [a]) (fp2 := [b]) (fun c hc => by rw [List.mem_singleton.mp hc]; exact la) (fun c hc => by rw [List.mem_singleton.mp hc]; exact lb)) (Nat.ne_of_lt la) (Nat.ne_of_lt (Nat.lt_succ_of_lt lb)), ⟨hz, hI, ⟨_, _, hO⟩, kit_new g1, kit_new g2⟩, fun c hc => ?_, q⟩
      have le : s1.heap.objs.size ≤ c := by
        rcases of5 hc with z | z | z | z | z
        · rw [z]; exact Nat.le_add_right _ _
        · rw [z]; exact Nat.le_add_right _ _
        · rw [z]; exact Nat.le_add_right _ _
        · rw [z]; exact Nat.le_refl _
        · rw [z]; exact Nat.le_add_right _ _
      exact I1.fpOk le (I1.hok.fresh le)
theorem walk_z2 {K : PySem.W.Frag} {k1 k2 : Bool} {a b : Addr} {xs ys : List V} {n : Nat} (hn : n = min xs.length ys.length) : Walk (Itz2 K k1 k2 a b) n (fun H => SqK K k1 H a xs ∧ SqK K k2 H b ys) (YPair (fun i => xs[i]?) (fun i => ys[i]?)) := by
  subst hn
  refine ⟨fun i _ hi q => ?_, fun _ q => ⟨xs, ys, q.1, q.2, by omega, by omega, by omega⟩, fun i H v H' _ q y => ?_⟩
  · obtain ⟨x, hx⟩ := getElem?_ex (show i < xs.length by omega)
    obtain ⟨y, hy⟩ := getElem?_ex (show i < ys.length by omega)
    exact ⟨xs, ys, x, y, q.1, q.2, hx, hy⟩
  · obtain ⟨T, x, z, h1, h2, h3, h4, h5⟩ := y
    exact ⟨T, x, z, h1, h2, h3, h4 xs q.1, h5 ys q.2⟩
/-! ### tuples that are cut, whole or in part -/
theorem sl_tupAK {X : Cx} (K : PySem.W.Frag) (h : X.K = K) : SlR X (rSlA K) := by subst h; exact sl_tupA
end WB
namespace WB
open PySem PySem.Spec PyProof.Rows L2
/-! ### things that stand apart, and tuples that are known (they may be shared: nothing changes them) -/
def noT : HO → Prop
  | .tup _ => False
  | .frz _ _ => False
  | _ => True
class NT (T : Th) : Prop where
  nt : ∀ H, T.P H → ∀ a ∈ T.ft, ∀ o, H a = some o → noT o
def TF (K : PySem.W.Frag) (L : List (Addr × List V)) (H : Hp) : Prop := ∀ p ∈ L, SqT K H p.1 p.2
section
variable {K : PySem.W.Frag} {L : List (Addr × List V)} {H H' : Hp} {F : List Addr} {a : Addr} {xs : List V}
theorem sqT_keep (kp : ∀ o, H a = some o → ¬ noT o → H' a = some o) (h : SqT K H a xs) : SqT K H' a xs := by
  rcases h with (h | ⟨o, h⟩) | h
  · exact .inl (.inl (kp _ h (fun z => z)))
  · exact .inl (.inr ⟨o, kp _ h (fun z => z)⟩)
  · exact .inr h
theorem sqT_mvf (m : MvF F H H') (hF : ∀ a ∈ F, ∀ o, H a = some o → noT o) (h : SqT K H a xs) : SqT K H' a xs := sqT_keep (fun o e n => m.kp a o (fun z => n (hF a z o e)) e) h
theorem TF.mvf (m : MvF F H H') (hF : ∀ a ∈ F, ∀ o, H a = some o → noT o) (t : TF K L H) : TF K L H' := fun p hp => sqT_mvf m hF (t p hp)
theorem TF.same (s : Same H H') (t : TF K L H) : TF K L H' := fun p hp => same_t s (t p hp)
end
instance (b : Addr × Addr) : NT (tB b) := ⟨fun H h a ha o e => by
  obtain ⟨ns, i, r, x, c, h1, h2, _⟩ := h
  rcases List.mem_cons.mp ha with rfl | ha
  · rw [h1] at e
    cases e
    trivial
  · rw [List.mem_singleton.mp ha, h2] at e
    cases e
    trivial⟩
instance (a : Addr) (xs : List V) : NT (tO a (.lst xs)) := ⟨fun H h b hb o e => by
  rw [in1 hb, h.1] at e
  cases e
  trivial⟩
instance {α : Type} (Y : List α) (f : α → Th) [i : ∀ y, NT (f y)] : NT (tG (Y.map f)) := ⟨fun H h a ha o e => by
  obtain ⟨y, hy, ha⟩ := mem_tG.mp ha
  obtain ⟨j, hj⟩ := List.getElem?_of_mem hy
  have g : Hs [] (Y.map f) H := h
  exact (i y).nt H (g.get j (map_at hj)) a ha o e⟩
structure Hw (K : PySem.W.Frag) (L : List (Addr × List V)) (T0 : List (Addr × Str)) (Ts : List Th) (H : Hp) : Prop where
  hs : Hs T0 Ts H
  tf : TF K L H
section
variable {K : PySem.W.Frag} {L L' : List (Addr × List V)} {T0 : List (Addr × Str)} {Ts : List Th} {T T' N : Th} {H H' : Hp} {a p : Addr} {xs : List V} {b : Addr × Addr} {o o' : HO}
theorem Hw.of (h : Hs T0 Ts H) : Hw K [] T0 Ts H := ⟨h, fun p hp => absurd hp List.not_mem_nil⟩
theorem Hw.get (h : Hw K L T0 Ts H) (i : Nat) (hi : Ts[i]? = some T) : T.P H := h.hs.get i hi
theorem Hw.at (h : Hw K L T0 Ts H) (i : Nat) (hi : Ts[i]? = some (tO p o)) : H p = some o := h.hs.at i hi
theorem Hw.tup (h : Hw K L T0 Ts H) (i : Nat) (hi : L[i]? = some (a, xs)) : SqT K H a xs := h.tf _ (List.mem_of_getElem? hi)
theorem Hw.same (h : Hw K L T0 Ts H) (s : Same H H') : Hw K L T0 Ts H' := ⟨h.hs.same s, h.tf.same s⟩
theorem Hw.know (h : Hw K L T0 Ts H) (t : SqT K H a xs) : Hw K ((a, xs) :: L) T0 Ts H := ⟨h.hs, fun p hp => (List.mem_cons.mp hp).elim (fun z => by rw [z]; exact t) (h.tf p)⟩
theorem Hw.selT (h : Hw K L T0 Ts H) (hs : ∀ q ∈ L', q ∈ L) : Hw K L' T0 Ts H := ⟨h.hs, fun p hp => h.tf p (hs p hp)⟩
theorem Hw.sel (h : Hw K L T0 Ts H) (is : List Nat) (hn : is.Nodup) : Hw K L T0 (pickTs Ts is) H := ⟨h.hs.sel is hn, h.tf⟩
theorem Hw.bag (h : Hw K L T0 (tB b :: Ts) H) : Bag b H := h.hs.bag
theorem Hw.noF [NT T] {F : List Addr} (h : Hw K L T0 Ts H) (i : Nat) (hi : Ts[i]? = some T) (hF : ∀ a ∈ F, a ∈ T.ft ∨ H a = none) : ∀ a ∈ F, ∀ o, H a = some o → noT o := fun a ha o e => by
  rcases hF a ha with z | z
  · exact NT.nt H (h.hs.get i hi) a z o e
  · rw [z] at e
    cases e
theorem Hw.op [NT T] {F : List Addr} (h : Hw K L T0 Ts H) (i : Nat) (hi : Ts[i]? = some T) (m : MvF F H H') (hF : ∀ a ∈ F, a ∈ T.ft ∨ H a = none) (hp : T'.P H') (hf : ∀ a ∈ T'.ft, a ∈ T.ft ∨ H a = none) : Hw K L T0 (Ts.set i T') H' :=
  ⟨h.hs.op i hi m hF hp hf, h.tf.mvf m (h.noF i hi hF)⟩
theorem Hw.opNew [NT T] {F : List Addr} (h : Hw K L T0 Ts H) (i : Nat) (hi : Ts[i]? = some T) (m : MvF F H H') (hF : ∀ a ∈ F, a ∈ T.ft ∨ H a = none) (hp : T'.P H') (hf : ∀ a ∈ T'.ft, a ∈ T.ft ∨ H a = none) (hn : N.P H') (hnf : ∀ a ∈ N.ft, H a = none ∧ a ∉ T'.ft) : Hw K L T0 (N :: Ts.set i T') H' :=
  ⟨h.hs.opNew i hi m hF hp hf hn hnf, h.tf.mvf m (h.noF i hi hF)⟩
theorem Hw.mv (h : Hw K L T0 (tB b :: Ts) H) (m : Mv b.1 H H') (g : Bag b H') : Hw K L T0 (tB b :: Ts) H' :=
  h.op (T := tB b) (T' := tB b) 0 rfl (mvf_bag m g) (fun a ha => .inl ha) g (fun a ha => .inl ha)
theorem Hw.newM (h : Hw K L T0 (tB b :: Ts) H) (m : Mv b.1 H H') (g : Bag b H') (n : H p = none) (e : H' p = some o) (pl : plain o := by exact trivial) : Hw K L T0 (tB b :: tO p o :: Ts) H' :=
  ⟨h.hs.newM m g n e pl, h.tf.mvf (mvf_bag m g) (h.noF (T := tB b) 0 rfl (fun a ha => .inl ha))⟩
theorem Hw.newH (h : Hw K L T0 Ts H) (s : Same H H') (n : H p = none) (e : H' p = some o) (pl : plain o := by exact trivial) : Hw K L T0 (tO p o :: Ts) H' := ⟨h.hs.newH s n e pl, h.tf.same s⟩
theorem Hw.newHU (h : Hw K L T0 Ts H) (n : H p = none) (pl : plain o := by exact trivial) : Hw K L T0 (tO p o :: Ts) (upd H p o) := ⟨h.hs.newHU n pl, h.tf.same (same_upd n)⟩
theorem Hw.newU (h : Hw K L T0 (tB b :: Ts) H) (n : H p = none) (pl : plain o := by exact trivial) : Hw K L T0 (tB b :: tO p o :: Ts) (upd H p o) := ⟨h.hs.newU n pl, h.tf.same (same_upd n)⟩
theorem Hw.new (h : Hw K L T0 Ts H) (s : Same H H') (hp : T.P H') (hf : ∀ a ∈ T.ft, H a = none) : Hw K L T0 (T :: Ts) H' := ⟨h.hs.new s hp hf, h.tf.same s⟩
/-- a new tuple, known from now on -/
theorem Hw.newT (h : Hw K L T0 Ts H) (n : H p = none) : Hw K ((p, xs) :: L) T0 Ts (upd H p (.tup xs)) := (h.same (same_upd n)).know (SqT.of upd_same)
theorem Hw.put (h : Hw K L T0 Ts H) (i : Nat) {xs ys : List V} (hi : Ts[i]? = some (tL p xs)) : Hw K L T0 (Ts.set i (tL p ys)) (upd H p (.lst ys)) :=
  h.op (T := tL p xs) (T' := tL p ys) i hi (F := [p]) ((MvF.refl [p] H).upd (.head _)) (fun a ha => .inl ha) ⟨upd_same, trivial⟩ (fun a ha => .inl ha)
theorem Hw.merge {A B C : Th} (h : Hw K L T0 (A :: B :: Ts) H) (hp : C.P H) (hf : ∀ a ∈ C.ft, a ∈ A.ft ∨ a ∈ B.ft) : Hw K L T0 (C :: Ts) H := ⟨h.hs.merge hp hf, h.tf⟩
end
section
variable {α : Type} {K : PySem.W.Frag} {L : List (Addr × List V)} {T0 : List (Addr × Str)} {Ts : List Th} {Y : List α} {f : α → Th} {i j : Nat} {y y' z : α} {H H' : Hp} {N : Th}
theorem Hw.gget (h : Hw K L T0 Ts H) (i : Nat) (hi : Ts[i]? = some (tG (Y.map f))) (hj : Y[j]? = some y) : (f y).P H := h.hs.gget i hi hj
theorem Hw.gset [∀ y, NT (f y)] {F : List Addr} (h : Hw K L T0 Ts H) (i : Nat) (hi : Ts[i]? = some (tG (Y.map f))) (hj : Y[j]? = some y) (m : MvF F H H') (hF : ∀ a ∈ F, a ∈ (f y).ft ∨ H a = none) (hp : (f y').P H') (hf : ∀ a ∈ (f y').ft, a ∈ (f y).ft ∨ H a = none) : Hw K L T0 (Ts.set i (tG ((Y.set j y').map f))) H' :=
  ⟨h.hs.gset i hi hj m hF hp hf, h.tf.mvf m (h.noF (T := tG (Y.map f)) i hi (fun a ha => (hF a ha).imp (fun x => mem_tG.mpr ⟨y, List.mem_of_getElem? hj, x⟩) id))⟩
theorem Hw.gsetN [∀ y, NT (f y)] {F : List Addr} (h : Hw K L T0 Ts H) (i : Nat) (hi : Ts[i]? = some (tG (Y.map f))) (hj : Y[j]? = some y) (m : MvF F H H') (hF : ∀ a ∈ F, a ∈ (f y).ft ∨ H a = none) (hp : (f y').P H') (hf : ∀ a ∈ (f y').ft, a ∈ (f y).ft ∨ H a = none) (hn : N.P H') (hnf : ∀ a ∈ N.ft, H a = none ∧ a ∉ (f y').ft) : Hw K L T0 (N :: Ts.set i (tG ((Y.set j y').map f))) H' :=
  ⟨h.hs.gsetN i hi hj m hF hp hf hn hnf, h.tf.mvf m (h.noF (T := tG (Y.map f)) i hi (fun a ha => (hF a ha).imp (fun x => mem_tG.mpr ⟨y, List.mem_of_getElem? hj, x⟩) id))⟩
theorem Hw.gadd (h : Hw K L T0 (f z :: tG (Y.map f) :: Ts) H) : Hw K L T0 (tG ((Y ++ [z]).map f) :: Ts) H := ⟨h.hs.gadd, h.tf⟩
theorem Hw.gnil (h : Hw K L T0 Ts H) : Hw K L T0 (tG (([] : List α).map f) :: Ts) H := ⟨h.hs.gnil, h.tf⟩
end
theorem sqT_updI {K : PySem.W.Frag} {H : Hp} {r C dx t : Addr} {fs : List (Str × V)} {o : HO} {xs : List V} (e : H r = some (.ins C dx fs)) (h : SqT K H t xs) : SqT K (upd H r o) t xs := sqT_keep (fun u eu n => by
  rw [upd_ne (fun z => ?_)]
  · exact eu
  · rw [z, e] at eu
    cases eu
    exact n trivial) h
theorem sqK_updI {K : PySem.W.Frag} {H : Hp} {r C dx t : Addr} {fs : List (Str × V)} {o : HO} {k : Bool} {xs : List V} (e : H r = some (.ins C dx fs)) (h : SqK K k H t xs) : SqK K k (upd H r o) t xs := by
  cases k with
  | false => exact sqT_updI e h
  | true =>
    refine lk_l (lk_mv (b := r) (Mv.refl r H).upd ?_) h
    intro u eu
    rw [e] at eu
    cases eu
    rintro (⟨_, z⟩ | ⟨_, z⟩ | ⟨_, _, z⟩) <;> cases z
theorem ix_by {K : PySem.W.Frag} {k : Bool} {H : Hp} {a : Addr} {xs : List V} {i : Int} {v : V} {Q : VK} (h : SqK K k H a xs) (e : atI xs i = some v) (q : Q v H) : rIx K (.ref a) (.int i) H Q := by
  cases k with
  | true => exact .inl ⟨a, _, _, _, rfl, rfl, h, e, q⟩
  | false => exact .inr (.inl ⟨a, _, _, _, rfl, rfl, h, e, q⟩)
theorem SqK.or {K : PySem.W.Frag} {k : Bool} {H : Hp} {a : Addr} {xs : List V} (h : SqK K k H a xs) : SqL K H a xs ∨ SqT K H a xs := by
  cases k with
  | true => exact .inl h
  | false => exact .inr h
theorem made_none {H : Hp} {x dx l : Addr} {o o' : HO} (h : upd (upd H dx o') x o l = none) : H l = none := by
  by_cases z : l = x
  · rw [z, upd_same] at h
    cases h
  by_cases y : l = dx
  · rw [upd_ne z, y, upd_same] at h
    cases h
  rw [upd_ne z, upd_ne y] at h
  exact h
theorem made_same {H H2 : Hp} {x dx : Addr} {o o' : HO} (nx : H x = none) (ndx : H dx = none) (m : MvF [x] (upd (upd H dx o') x o) H2) : Same H H2 := fun a u e => by
  refine m.kp a u (fun z => ne_of_none e nx (in1 z)) ?_
  rw [upd_ne (ne_of_none e nx), upd_ne (ne_of_none e ndx)]
  exact e
/-! ### makers with arguments by place -/
def CalNX (P : Program) (w : World) (K : PySem.W.Frag) (mg : Str → Option Value) (base : Heap) (k : Nat) (nm : Str) (C : Addr) (ps : List Str) (sp : Sp) : Prop :=
  ∃ (f : Addr) (fd : FuncData), Mk K C f ∧ FnOk P w K mg base (L2.CX P w) k f fd ps sp ∧ mg nm = some (.ref C) ∧ Binds K fd ps []
theorem CalNX.mono {P : Program} {w : World} {K : PySem.W.Frag} {mg : Str → Option Value} {base : Heap} {j k : Nat} {nm : Str} {C : Addr} {ps : List Str} {sp : Sp} (c : CalNX P w K mg base j nm C ps sp) (h : j ≤ k) : CalNX P w K mg base k nm C ps sp := by
  obtain ⟨f, fd, a, b, d, e⟩ := c
  exact ⟨f, fd, a, b.mono h, d, e⟩
section
variable {X : Cx} {k : Nat} {C : Addr} {ps : List Str} {sp : Sp} {E : XK} {nm : Str} {p pos : Pos} {e : Expr} {es : List Expr} {t : TA}
theorem pe_makeX (c : CalNX X.prog X.w X.K X.mg X.base k nm C ps sp) (hr : Room (k + 1) X.A) (hx : Passes (L2.CX X.prog X.w) X E) (hg : Gl X nm) (ha : PA X (e :: es) t) (hdb : (nm == ("__debug__" : Str)) = false := by decide)
    (he : starEach (e :: es) X.env = (false, eval e X.env) :: starEach es X.env := by rfl) (hpl : (backTo pos (starEach es X.env)).any (·.1) = false := by rfl) : PE X (.Call (.Name nm p) (e :: es) [] pos) (tMake C sp [] E t) := by
  obtain ⟨f, fd, a, b, d, q⟩ := c
  exact pe_make a b hr hg d q .nil hx ha hdb he hpl
theorem pe_makeXF (c : CalNX X.prog X.w X.K X.mg X.base k nm C ps sp) (hr : Room (k + 1) X.A) (hg : Gl X nm) (ha : PA X (e :: es) t) (hdb : (nm == ("__debug__" : Str)) = false := by decide)
    (he : starEach (e :: es) X.env = (false, eval e X.env) :: starEach es X.env := by rfl) (hpl : (backTo pos (starEach es X.env)).any (·.1) = false := by rfl) : PE X (.Call (.Name nm p) (e :: es) [] pos) (tMake C sp [] E0 t) := pe_makeX c hr passL hg ha hdb he hpl
end
section
variable {X : Cx} (K : PySem.W.Frag)
def rSlAny (K : PySem.W.Frag) : V → Option Int → Option Int → Hp → VK → Prop := fun x lo hi H Q => rSlL K x lo hi H Q ∨ rSlA K x lo hi H Q
theorem sl_anyK (h : X.K = K) : SlR X (rSlAny K) := by
  subst h
  intro pins s σ H x v vl vu lo hi sl Q I rx hs pl pu h
  rcases h with h | h
  · exact sl_list pins s σ H x v vl vu lo hi sl Q I rx hs pl pu h
  · exact sl_tupA pins s σ H x v vl vu lo hi sl Q I rx hs pl pu h
end
end WB
namespace WB
open PySem PySem.Spec PyProof.Rows L2
/-! ### methods with keyword-only parameters: n by place behind the thing itself, keywords ks -/
def tMethN (C : Addr) (m : Str) (n j : Nat) (sp : Sp) (gV : List V → List V → List V) (E : XK) (ta : TE) (t tk : TA) : TE := fun σ H Q => ta σ H fun x H1 => ∃ (a dx : Addr) (fs : List (Str × V)), x = .ref a ∧ H1 a = some (.ins C dx fs) ∧ fs.lookup m = none ∧
  t σ H1 fun vs H2 => tk σ H2 fun zs H3 => vs.length = n ∧ zs.length = j ∧ sp (gV (.ref a :: vs) zs) H3 Q E
def CalMW (P : Program) (w : World) (K : PySem.W.Frag) (mg : Str → Option Value) (base : Heap) (k : Nat) (C : Addr) (m : Str) (ps : List Str) (n : Nat) (ks : List Str) (gV : List V → List V → List V) (sp : Sp) : Prop :=
  ∃ (f : Addr) (fd : FuncData) (g : List Value → List Value → List Value), Cls K C ∧ Meth K C m f ∧ FnOk P w K mg base (L2.CX P w) k f fd ps sp ∧ KBn K fd ps (n + 1) ks g gV
theorem CalMW.mono {P : Program} {w : World} {K : PySem.W.Frag} {mg : Str → Option Value} {base : Heap} {j k n : Nat} {C : Addr} {m : Str} {ps ks : List Str} {gV : List V → List V → List V} {sp : Sp} (c : CalMW P w K mg base j C m ps n ks gV sp) (h : j ≤ k) : CalMW P w K mg base k C m ps n ks gV sp := by
  obtain ⟨f, fd, g, a, b, d, e⟩ := c
  exact ⟨f, fd, g, a, b, d.mono h, e⟩
/-- the keyword-only ones left out -/
def CalMD (P : Program) (w : World) (K : PySem.W.Frag) (mg : Str → Option Value) (base : Heap) (k : Nat) (C : Addr) (m : Str) (ps : List Str) (dvs : List V) (sp : Sp) : Prop :=
  ∃ (f : Addr) (fd : FuncData) (ds : List Value), Cls K C ∧ Meth K C m f ∧ FnOk P w K mg base (L2.CX P w) k f fd ps sp ∧ Binds K fd ps ds ∧ Vals dvs ds
theorem CalMD.mono {P : Program} {w : World} {K : PySem.W.Frag} {mg : Str → Option Value} {base : Heap} {j k : Nat} {C : Addr} {m : Str} {ps : List Str} {dvs : List V} {sp : Sp} (c : CalMD P w K mg base j C m ps dvs sp) (h : j ≤ k) : CalMD P w K mg base k C m ps dvs sp := by
  obtain ⟨f, fd, g, a, b, d, e⟩ := c
  exact ⟨f, fd, g, a, b, d.mono h, e⟩
section
variable {X : Cx} {k n : Nat} {C : Addr} {m : Str} {ps ks : List Str} {sp : Sp} {E : XK} {pos apos : Pos} {e o : Expr} {es : List Expr} {kws : List Keyword} {ta : TE} {t tk : TA} {gV : List V → List V → List V} {dvs : List V} {pl : Sem Bool}
theorem pe_methW (ho : PE X o ta) (c : CalMW X.prog X.w X.K X.mg X.base k C m ps n ks gV sp) (hr : Room k X.A) (hx : Passes (L2.CX X.prog X.w) X E) (ha : PA X (e :: es) t) (hkw : PK X kws tk)
    (hall : (backToKw pos (keywordEach kws X.env)).all (·.1.isSome) = true := by rfl) (hks : (backToKw pos (keywordEach kws X.env)).filterMap (·.1) = ks := by rfl) (he : starEach (e :: es) X.env = (false, eval e X.env) :: starEach es X.env := by rfl)
    (hpl : ((backTo pos (starEach (e :: es) X.env)).any (·.1) || (backToKw pos (keywordEach kws X.env)).any (·.1.isNone)) = false := by rfl)
    (ht : eval (.Call (.Attribute o m apos) (e :: es) kws pos) X.env = (do
      let ov ← eval o X.env
      standAt apos.atName
      let (f, first) ← holding [ov] (getMethod ov m pl)
      callWith pos f first (backTo pos (starEach (e :: es) X.env)) (backToKw pos (keywordEach kws X.env))) := by rfl) :
    PE X (.Call (.Attribute o m apos) (e :: es) kws pos) (tMethN C m n ks.length sp gV E ta t tk) := by
  obtain ⟨f, fd, g, hc, hm, F, hb⟩ := c
  refine ⟨fun pins s σ H Q I h => ?_⟩
  refine PySem.W.methodCall_KW (pl := pl) (thn (ho.run pins s σ H _ I h) fun u s1 y => ?_) ht
  obtain ⟨x, H1, I1, rx, a, dx, fs, rfl, ea, l, q⟩ := y
  obtain rfl : u = Value.ref a := rx
  refine getmeth_ok I1 ea hc hm l ?_
  refine PySem.W.callWith_KW (first := [.ref a]) (h₀ := X.base) I.ok.mod.kin hm.kp hall (thn (ha.run pos pins s1 σ H1 _ I1 q) fun us s2 y => ?_) hpl he
  obtain ⟨vs, H2, I2, r, q2⟩ := y
  refine thn (hkw.run pos pins s2 σ H2 _ I2 q2) fun ws s3 y => ?_
  obtain ⟨zs, H3, I3, rz, l1, l2, q3⟩ := y
  refine ⟨I3.kIn, ?_⟩
  rw [hks]
  exact run_fnN (us := .ref a :: us) (vs := .ref a :: vs) F hr hb hx I3 (.cons rfl r) rz (congrArg (· + 1) l1) l2 q3
theorem pe_methWF (ho : PE X o ta) (c : CalMW X.prog X.w X.K X.mg X.base k C m ps n ks gV sp) (hr : Room k X.A) (ha : PA X (e :: es) t) (hkw : PK X kws tk)
    (hall : (backToKw pos (keywordEach kws X.env)).all (·.1.isSome) = true := by rfl) (hks : (backToKw pos (keywordEach kws X.env)).filterMap (·.1) = ks := by rfl) (he : starEach (e :: es) X.env = (false, eval e X.env) :: starEach es X.env := by rfl)
    (hpl : ((backTo pos (starEach (e :: es) X.env)).any (·.1) || (backToKw pos (keywordEach kws X.env)).any (·.1.isNone)) = false := by rfl)
    (ht : eval (.Call (.Attribute o m apos) (e :: es) kws pos) X.env = (do
      let ov ← eval o X.env
      standAt apos.atName
      let (f, first) ← holding [ov] (getMethod ov m pl)
      callWith pos f first (backTo pos (starEach (e :: es) X.env)) (backToKw pos (keywordEach kws X.env))) := by rfl) :
    PE X (.Call (.Attribute o m apos) (e :: es) kws pos) (tMethN C m n ks.length sp gV E0 ta t tk) := pe_methW ho c hr passL ha hkw hall hks he hpl ht
theorem pe_methD (ho : PE X o ta) (c : CalMD X.prog X.w X.K X.mg X.base k C m ps dvs sp) (hr : Room k X.A) (hx : Passes (L2.CX X.prog X.w) X E) (ha : PA X (e :: es) t) (hs : starEach (e :: es) X.env = (false, eval e X.env) :: starEach es X.env := by rfl) (hpl : (backTo pos (starEach es X.env)).any (·.1) = false := by rfl)
    (hc : eval (.Call (.Attribute o m apos) (e :: es) [] pos) X.env = (do
      let ov ← eval o X.env
      standAt apos.atName
      let (f, first) ← holding [ov] (getMethod ov m pl)
      callWith pos f first (backTo pos (starEach (e :: es) X.env)) (backToKw pos (keywordEach [] X.env))) := by rfl) : PE X (.Call (.Attribute o m apos) (e :: es) [] pos) (tMeth C m sp dvs E ta t) := by
  obtain ⟨f, fd, ds, a, b, d, g, v⟩ := c
  exact pe_meth ho a b d hr g v hx ha hs hpl hc
theorem pe_methDF (ho : PE X o ta) (c : CalMD X.prog X.w X.K X.mg X.base k C m ps dvs sp) (hr : Room k X.A) (ha : PA X (e :: es) t) (hs : starEach (e :: es) X.env = (false, eval e X.env) :: starEach es X.env := by rfl) (hpl : (backTo pos (starEach es X.env)).any (·.1) = false := by rfl)
    (hc : eval (.Call (.Attribute o m apos) (e :: es) [] pos) X.env = (do
      let ov ← eval o X.env
      standAt apos.atName
      let (f, first) ← holding [ov] (getMethod ov m pl)
      callWith pos f first (backTo pos (starEach (e :: es) X.env)) (backToKw pos (keywordEach [] X.env))) := by rfl) : PE X (.Call (.Attribute o m apos) (e :: es) [] pos) (tMeth C m sp dvs E0 ta t) := pe_methD ho c hr passL ha hs hpl hc
end
theorem pi_revAK {X : Cx} (K : PySem.W.Frag) (hKK : X.K = K) {tg e : Expr} {te : TE} {p pos : Pos} (hg : Gl X "reversed") (hm : X.mg "reversed" = none) (he : PE X e te) (hs : starEach [e] X.env = (false, eval e X.env) :: starEach [] X.env := by rfl) : PI X tg (.Call (.Name "reversed" p) [e] [] pos) (RT.iRevA K te) := by
  subst hKK
  exact RT.pi_revA hg hm he hs
theorem walk_revT {K : PySem.W.Frag} {a : Addr} {xs : List V} : Walk (RT.ItvT K a xs.length) xs.length (fun H => SqT K H a xs) (fun i H x H' => H' = H ∧ xs[xs.length - 1 - i]? = some x) := by
  refine ⟨fun i H hi q => ⟨hi, xs, ?_⟩, fun _ _ => Nat.le_refl _, fun i H x H' _ q y => ⟨y.1, y.2 xs q⟩⟩
  obtain ⟨x, hx⟩ := getElem?_ex (show xs.length - 1 - i < xs.length by omega)
  exact ⟨x, q, hx⟩
/-! ### how keywords are bound: ks as written, ms those that lack (their defaults), pm puts both in the parameters' order -/
section
variable {K : PySem.W.Frag} {x qual : Str} {params : Arguments} {body : List Stmt} {scope : Scope} {kws : List (Str × V)} {f : Addr} {fd : FuncData} {ps : List Str}
/-- the i-th of both rows, one behind the other -/
def pickL {α : Type} (l : List α) : List Nat → List α
  | [] => []
  | i :: r => match l[i]? with
    | some x => x :: pickL l r
    | none => pickL l r
theorem vals_pick {vs : List V} {us : List Value} (h : Vals vs us) : ∀ is : List Nat, Vals (pickL vs is) (pickL us is)
  | [] => .nil
  | i :: r => by
    unfold pickL
    cases e : us[i]? with
    | none =>
      have e2 : vs[i]? = none := by
        rw [List.getElem?_eq_none_iff] at e ⊢
        have := h.length
        omega
      rw [e2]
      exact vals_pick h r
    | some u =>
      obtain ⟨y, hy, ry⟩ := vals_at h e
      rw [hy]
      exact .cons ry (vals_pick h r)
theorem kbn_pick (F : FunD K x qual params body scope [] kws f fd) (n : Nat) (ks : List Str) (ms : List (Str × V)) (is : List Nat) (hk : kws ≠ []) (hms : ∀ q ∈ ms, q ∈ kws)
    (h : ∀ (D : Addr) (doc pm : Value) (an : Option Addr) (cdv ct : Value) (us mv ws : List Value), us.length = n → mv.length = ms.length → ws.length = ks.length →
      KwChain D ((ms.map (·.1)).zip mv) (bindArgs (PySem.W.fnOf x qual params body scope .none (.ref D) doc pm an cdv ct) ⟨us, ks.zip ws⟩) (ps.zip (us ++ pickL (ws ++ mv) is))) :
    ∃ g, KBn K fd ps n ks g (fun vs zs => vs ++ pickL (zs ++ ms.map (·.2)) is) := by
  obtain ⟨mv, hb⟩ := F.kbinds0 (ps := ps) n ks ms (fun {α} us mv ws => us ++ pickL (ws ++ mv) is) hk hms (fun r1 r2 r3 => r1.append (vals_pick (r3.append r2) is)) h
  exact ⟨_, hb⟩
end
end WB
namespace WB
open PySem PySem.Spec PyProof.Rows L2
/-! ### a comparison of two instances of one class by the class's own def, whatever it tells -/
def rOwnI (C : Addr) (sp : Sp) (E : XK) : R2 := fun x y H Q => ∃ a dx fs b dy gs, x = .ref a ∧ y = .ref b ∧ H a = some (.ins C dx fs) ∧ H b = some (.ins C dy gs) ∧ sp [x, y] H Q E
section
variable {X : Cx} {CX : CXT} {C g : Addr} {n : Nat} {sp : Sp} {E : XK}
theorem op_ownI {op : CmpOp} (hop : ∀ a b, compareOp op a b = richCompare op a b) (hs : PySem.W.findIn X.K (.ref C) (cmpInfo op).2.1 = some (some (.ref g))) (hf : PySem.W.isFn X.K (.ref g) = true) (F : FnR X.prog X.w X.K X.mg X.base CX n g sp)
    (hr : Room n X.A) (hx : Passes CX X E) : OpR X (compareOp op) (rOwnI C sp E) := by
  intro pins s σ H x y v u Q I rx ry h
  obtain ⟨a, dx, fs, b, dy, gs, rfl, rfl, ha, hb, q⟩ := h
  cases (show v = Value.ref a from rx)
  cases (show u = Value.ref b from ry)
  obtain ⟨mA, J, _⟩ := ins_get I.hok ha
  obtain ⟨mB, J', _⟩ := ins_get I.hok hb
  obtain ⟨od, J, _⟩ := J.look
  obtain ⟨od', J', _⟩ := J'.look
  obtain ⟨m, hF⟩ := I.fr
  rw [hop]
  refine PySem.W.cmp_K (op := op) (tb := .ref C) hr.units0 hF I.ok.mod.kin J J'.type (by simp [PySem.W.notFirst]) hs hf ?_
  refine wpAny_mono (wpAny_call (run_fnR (us := [.ref a, .ref b]) (vs := [.ref a, .ref b]) F hr hx I (.cons rfl (.cons rfl .nil)) q)) (fun w s' z => ?_) fun _ _ x => x
  obtain ⟨z', H', I', rz, qz⟩ := z
  exact SlX.cmpback rz ⟨z', H', I', rz, qz⟩
theorem op_eqI (hs : PySem.W.findIn X.K (.ref C) "__eq__" = some (some (.ref g))) (hf : PySem.W.isFn X.K (.ref g) = true) (F : FnR X.prog X.w X.K X.mg X.base CX n g sp) (hr : Room n X.A) (hx : Passes CX X E) : OpR X (compareOp .Eq) (rOwnI C sp E) :=
  op_ownI (fun _ _ => rfl) hs hf F hr hx
end
end WB
namespace WB
open PySem PySem.Spec PyProof.Rows L2 Builtin
section
variable {M : Model} {A : Around} {E : Value → Shared → Prop} {s : Shared} {K : PySem.W.Frag} {x C : Addr} {ox : Obj} {od : Option Obj}
theorem ifBound_objNe {args : List Value} {Q : Option Value → Shared → Prop} (X : K.In s.heap) (I : PySem.W.InstAt s.heap x ox C od) (hs : PySem.W.findIn K (.ref C) "__ne__" = some (some (.builtin "object.__ne__")))
    (h : wpAny M A (call (.builtin "object.__ne__") (.ref x :: args)) (fun v => Q (some v)) E s) : wpAny M A (callSpecialIfBound? (.ref x) "__ne__" args) Q E s := by
  simp only [callSpecialIfBound?, bindSpecialIfBound?]
  refine wpAny_holding (wpAny_bind (wpAny_bind (wpAny_bind (I.type.here ((PySem.W.looks_findIn X hs).here ?_)))))
  refine wpAny_bind (wpAny_askSetting (wpAny_ite ?_))
  have fin : wpAny M A (call (.builtin "object.__ne__") ([.ref x] ++ args) >>= fun v => pure (some v)) Q E s := wpAny_bind (wpAny_mono h (fun v s' h' => wpAny_pure h') fun _ _ h' => h')
  split
  · exact wpAny_bind (wpAny_of_eq (F.cmp_object.ne.bind _) (wpAny_pure (by exact fin)))
  · exact wpAny_tryCatch (wpAny_bind (wpAny_of_eq (F.cmp_object.ne.bind _) (wpAny_pure (by exact fin))))
end
section
variable {prog : Program} {w : World} {A : Around} {E : Value → Shared → Prop} {s : Shared} {K : PySem.W.Frag} {x b C f : Addr} {ox : Obj} {od : Option Obj}
theorem call_objNe {Q : Value → Shared → Prop} (hu : A.in1.units < cLine) (X : K.In s.heap) (I : PySem.W.InstAt s.heap x ox C od) (hm : PySem.W.mroIn K C (.type "object") = some true)
    (hs : PySem.W.findIn K (.ref C) "__eq__" = some (some (.ref f))) (hf : PySem.W.isFn K (.ref f) = true)
    (h : wpAny (model prog w) A.in1 (call (.ref f) [.ref x, .ref b]) (fun v s' => ∃ t, v = .bool t ∧ Q (.bool (!t)) s') E s) :
    wpAny (model prog w) A (call (.builtin "object.__ne__") [.ref x, .ref b]) Q E s := by
  refine wpAny_call (codeAny_call_builtin F.cmp_object.ne.plain F.cmpEntry_ne (PySem.W.check_slot F.cmpKind_ne F.cmpSplit_ne (I.type.andThen (PySem.W.looks_mroIn X hm)) (F.cmpArgs_ne _ _) ?_))
  unfold Builtin.«object.__ne__»
  repeat (first | with_reducible refine wpAny_cRoomFor hu ?_ | with_reducible refine PySem.W.ifBound_K X I hs hf (wpAny_mono h (fun v s' hv => ?_) fun _ _ e => e) | wp_step)
  obtain ⟨t, rfl, q⟩ := hv
  exact wpAny_bind (wpAny_truthy_bool (wpAny_pure q))
/-- != of two instances of a class with an own ==: it asks that, and turns the answer round -/
theorem ne_K {Q : Value → Shared → Prop} (hu : A.units < cLine) (hu1 : A.in1.units < cLine) (X : K.In s.heap) (I : PySem.W.InstAt s.heap x ox C od) (hb : PySem.W.Looks (model prog w) s.heap (typeOf (.ref b)) (.ref C))
    (hne : PySem.W.findIn K (.ref C) "__ne__" = some (some (.builtin "object.__ne__"))) (hm : PySem.W.mroIn K C (.type "object") = some true) (hs : PySem.W.findIn K (.ref C) "__eq__" = some (some (.ref f))) (hf : PySem.W.isFn K (.ref f) = true)
    (h : wpAny (model prog w) A.in1 (call (.ref f) [.ref x, .ref b]) (fun v s' => ∃ t, v = .bool t ∧ Q (.bool (!t)) s') E s) : wpAny (model prog w) A (richCompare .NotEq (.ref x) (.ref b)) Q E s := by
  have one : wpAny (model prog w) A (tryCompare (.ref x) (cmpInfo .NotEq).2.1 (.ref b)) (fun r s' => ∃ v, r = some v ∧ Q v s') E s := by
    unfold tryCompare
    refine wpAny_bind (ifBound_objNe X I hne (call_objNe hu1 X I hm hs hf (wpAny_mono h (fun v s' hv => ?_) fun _ _ e => e)))
    obtain ⟨t, rfl, q⟩ := hv
    exact ⟨t, rfl, wpAny_pure ⟨_, rfl, q⟩⟩
  unfold richCompare
  simp only [oneThing_ref]
  refine wpAny_holding (wpAny_bind (wpAny_cRoomFor hu ?_))
  refine wpAny_bind (I.type.here (wpAny_bind (hb.here ?_)))
  split
  · rename_i q
    simp at q
  · refine wpAny_bind (wpAny_pure ?_)
    simp only [Bool.false_eq_true, if_false]
    refine wpAny_bind (wpAny_mono one (fun r s' z => ?_) fun _ _ e => e)
    obtain ⟨v, rfl, hq⟩ := z
    exact wpAny_pure hq
end
def rNeI (C : Addr) (sp : Sp) (E : XK) : R2 := fun x y H Q => ∃ a dx fs b dy gs, x = .ref a ∧ y = .ref b ∧ H a = some (.ins C dx fs) ∧ H b = some (.ins C dy gs) ∧ sp [x, y] H (fun v H' => ∃ t, v = .bl t ∧ Q (.bl (!t)) H') E
section
variable {X : Cx} {CX : CXT} {C g : Addr} {n : Nat} {sp : Sp} {E : XK}
theorem op_neI (hne : PySem.W.findIn X.K (.ref C) "__ne__" = some (some (.builtin "object.__ne__"))) (hm : PySem.W.mroIn X.K C (.type "object") = some true) (hs : PySem.W.findIn X.K (.ref C) "__eq__" = some (some (.ref g))) (hf : PySem.W.isFn X.K (.ref g) = true)
    (F : FnR X.prog X.w X.K X.mg X.base CX n g sp) (hr : Room (n + 1) X.A) (hx : Passes CX X E) : OpR X (compareOp .NotEq) (rNeI C sp E) := by
  intro pins s σ H x y v u Q I rx ry h
  obtain ⟨a, dx, fs, b, dy, gs, rfl, rfl, ha, hb, q⟩ := h
  cases (show v = Value.ref a from rx)
  cases (show u = Value.ref b from ry)
  obtain ⟨mA, J, _⟩ := ins_get I.hok ha
  obtain ⟨mB, J', _⟩ := ins_get I.hok hb
  obtain ⟨od, J, _⟩ := J.look
  obtain ⟨od', J', _⟩ := J'.look
  have hr1 : Room n X.A.in1 := Room.in1 hr
  refine ne_K hr.units0 hr1.units0 I.kIn J J'.type hne hm hs hf (wpAny_mono (wpAny_call (SlX.run_at (us := [.ref a, .ref b]) (ws := [.ref a, .ref b]) F hr1 I.env0.in1 hx I (.cons rfl (.cons rfl .nil)) q)) (fun w s' z => ?_) fun _ _ x => x)
  obtain ⟨z', H', I', rz, t, rfl, qz⟩ := z
  cases (show w = Value.bool t from rz)
  exact ⟨t, rfl, .bl (!t), H', I', rfl, qz⟩
end
end WB
namespace WB
open PySem PySem.Spec PyProof.Rows L2
section
variable {X : Cx} (K : PySem.W.Frag)
theorem op_inDK (h : X.K = K) {k : Nat} (hr : Room k X.A) : OpR X (compareOp .In) (rInD K) := by subst h; exact op_inD (by have := hr.un; omega)
theorem op_notInDK (h : X.K = K) {k : Nat} (hr : Room k X.A) : OpR X (compareOp .NotIn) (rNotInD K) := by subst h; exact op_notInD (by have := hr.un; omega)
theorem mt_indexDK (h : X.K = K) {k : Nat} (hr : Room k X.A) : MtR X "list.index" (rIndexD K) := by subst h; exact mt_indexD (by have := hr.un; omega)
theorem op_catAK (h : X.K = K) : OpR X (binaryOp .Add) (rCatA K) := by subst h; exact op_catA
end
/-! ### list.extend of a tuple -/
theorem extend_tup (l : Addr) (items : Array Value) (n : Nat) (b : Addr) (items2 : Array Value) (n2 : Nat) (dd : Option Addr) (sl : Array (Option Value)) (hs0 : ¬(!items.isEmpty && Builtin.List.listTooLong (items.size + items2.size)) = true) (hs1 : items.size ≤ sizeLine) (hs2 : items.size + items2.size ≤ sizeLine + 1) :
    Meets (Builtin.«list.extend» ⟨[.ref l, .ref b], []⟩) (fun _ R s => s.heap.get? l = some { cls := .type "list", dict := none, data := .seq items n, slots := #[] } ∧ s.heap.get? b = some { cls := .type "tuple", dict := dd, data := .seq items2 n2, slots := sl } ∧ R (.ok (.ret Value.none)) { s with heap := s.heap.update l (Obj.mapSeq fun x => x ++ items2), toks := s.toks }) :=
  .of_wp fun prog w A R s h => by
    obtain ⟨hp, g, d, tk, os⟩ := s; obtain ⟨hl, hb, h⟩ := h; have f1 := AutoSeq1.idx_int; have f2 := AutoSeq1.sub_tuple_tuple; have f3 := AutoSeq1.sub_list_list; have f4 := AutoSeq1.sub_tuple_list; have f5 := AutoSeq1.sub_list_tuple;
    have hz' : (items ++ items2).size ≤ sizeLine + 1 := by rw [Array.size_append]; exact hs2
    wp_walk using (wpAny_updateSeq hl rfl (hz := hs1) (_hz' := hz')), AutoSeq1.wpAny_loadPart' hl, AutoSeq1.wpAny_loadPart' hb; exact ⟨_, rfl, h⟩
def rExtendT (K : PySem.W.Frag) : V → List V → Hp → VK → Prop := fun x vs H Q => ∃ l b xs zs, x = .ref l ∧ vs = [.ref b] ∧ H l = some (.lst xs) ∧ SqT K H b zs ∧ xs.length + zs.length ≤ sizeLine ∧ Q .non (upd H l (.lst (xs ++ zs)))
theorem mt_extendTK {X : Cx} (K : PySem.W.Frag) (hK : X.K = K) : MtM X "list.extend" (rExtendT K) := by
  subst hK
  intro pins s σ H x vs v us Q I rx rv h
  obtain ⟨l, b, xs, zs, rfl, rfl, hH, hB, hz, q⟩ := h
  cases rx
  obtain ⟨u, rfl, ru⟩ := rv.one
  cases ru
  obtain ⟨z, its, n, r, hl, e⟩ := I.lstM hH
  obtain ⟨its2, r2, ⟨o, ho, hc, n2, hd⟩, hz2⟩ := I.tuple hB
  obtain ⟨oc, odd, oda, osl⟩ := o
  cases hc
  cases hd
  have l1 := r.length
  have l2 := r2.length
  have hsz : its.toArray.size + its2.toArray.size ≤ sizeLine := by rw [List.size_toArray, List.size_toArray]; omega
  have hlong : ¬ (!its.toArray.isEmpty && Builtin.List.listTooLong (its.toArray.size + its2.toArray.size)) = true := by
    rw [notLongL hsz, Bool.and_false]
    exact Bool.false_ne_true
  refine call_meets F.slot_list_extend ⟨_, e, rfl⟩ F.entry_list_extend (F.args_list_extend_2 _ _)
    (extend_tup l its.toArray n b its2.toArray n2 odd osl hlong (by rw [List.size_toArray]; omega) (by omega)) ⟨e, ho, ?_⟩
  refine ⟨.non, _, I.lset (its' := its ++ its2) hH e (by simp) (r.append r2) ?_, rfl, q⟩
  rw [List.length_append]
  omega
/-- isinstance(x, C) of C's own instances -/
structure IsiC (K : PySem.W.Frag) (C : Addr) : Prop where
  c1 : PySem.W.findIn K (.ref C) "__class__" = some (some (.builtin "object.__class__"))
  c2 : PySem.W.specialIn K (.builtin "object.__class__") "__get__" = some (some (.builtin "getset_descriptor.__get__"))
  c3 : PySem.W.takesIn K (.builtin "object.__class__") = some true
  c4 : PySem.W.mroIn K C (.type "object") = some true
  kt : PySem.W.kitOne K (.ref C) (.ref C) = some true
theorem isi_own {K : PySem.W.Frag} {C r dx : Addr} {fs : List (Str × V)} {H : Hp} (i : IsiC K C) (c : Cls K C) (h : H r = some (.ins C dx fs)) : TyX K H (.ref r) (.ref C) := .base (.ins h c i.c1 i.c2 i.c3 i.c4)
/-- == and != of instances by the class's own == -/
def EqF (P : Program) (w : World) (K : PySem.W.Frag) (mg : Str → Option Value) (base : Heap) (k : Nat) (C : Addr) (sp : Sp) : Prop :=
  ∃ g, PySem.W.findIn K (.ref C) "__eq__" = some (some (.ref g)) ∧ PySem.W.isFn K (.ref g) = true ∧ FnR P w K mg base CX0 k g sp ∧ PySem.W.findIn K (.ref C) "__ne__" = some (some (.builtin "object.__ne__")) ∧ PySem.W.mroIn K C (.type "object") = some true
theorem EqF.mono {P : Program} {w : World} {K : PySem.W.Frag} {mg : Str → Option Value} {base : Heap} {j k : Nat} {C : Addr} {sp : Sp} (c : EqF P w K mg base j C sp) (h : j ≤ k) : EqF P w K mg base k C sp := by
  obtain ⟨g, a, b, d, e⟩ := c
  exact ⟨g, a, b, d.mono h, e⟩
section
variable {X : Cx} {C : Addr} {n : Nat} {sp : Sp}
theorem op_eqO (c : EqF X.prog X.w X.K X.mg X.base n C sp) (hr : Room n X.A) : OpR X (compareOp .Eq) (rOwnI C sp E0) := by
  obtain ⟨g, a, b, d, e⟩ := c
  exact op_eqI a b d hr pass0
theorem op_neO (c : EqF X.prog X.w X.K X.mg X.base n C sp) (hr : Room (n + 1) X.A) : OpR X (compareOp .NotEq) (rNeI C sp E0) := by
  obtain ⟨g, a, b, d, e, h⟩ := c
  exact op_neI e h a b d hr pass0
end
/-! ### len, repr, bool of an instance by the class's own defs -/
def OwnF (P : Program) (w : World) (K : PySem.W.Frag) (mg : Str → Option Value) (base : Heap) (k : Nat) (C : Addr) (m : Str) (sp : Sp) : Prop :=
  ∃ g, PySem.W.findIn K (.ref C) m = some (some (.ref g)) ∧ PySem.W.isFn K (.ref g) = true ∧ FnR P w K mg base CX0 k g sp
theorem OwnF.mono {P : Program} {w : World} {K : PySem.W.Frag} {mg : Str → Option Value} {base : Heap} {j k : Nat} {C : Addr} {m : Str} {sp : Sp} (c : OwnF P w K mg base j C m sp) (h : j ≤ k) : OwnF P w K mg base k C m sp := by
  obtain ⟨g, a, b, d⟩ := c
  exact ⟨g, a, b, d.mono h⟩
def rLenO (C : Addr) (sp : Sp) : List V → Hp → VK → Prop := fun xs H Q => ∃ a dx fs, xs = [V.ref a] ∧ H a = some (.ins C dx fs) ∧ sp [.ref a] H (fun v H' => ∃ n : Int, v = .int n ∧ 0 ≤ n ∧ n < 2 ^ 63 ∧ Q v H') E0
def rReprO (C : Addr) (sp : Sp) : List V → Hp → VK → Prop := fun xs H Q => ∃ a dx fs, xs = [V.ref a] ∧ H a = some (.ins C dx fs) ∧ sp [.ref a] H (fun v H' => ∃ n : Str, v = .str n ∧ Q v H') E0
def rBoolO (C : Addr) (sp : Sp) : List V → Hp → VK → Prop := fun xs H Q => ∃ a dx fs, xs = [V.ref a] ∧ H a = some (.ins C dx fs) ∧ sp [.ref a] H (fun v H' => ∃ n : Int, v = .int n ∧ 0 ≤ n ∧ n < 2 ^ 63 ∧ Q (.bl (n != 0)) H') E0
section
variable {X : Cx} {C : Addr} {n : Nat} {sp : Sp}
theorem call_lenO (c : OwnF X.prog X.w X.K X.mg X.base n C "__len__" sp) (hr : Room (n + 1) X.A) : CallR X (.builtin "len") (rLenO C sp) := by
  intro pins s σ H xs us Q I r h
  obtain ⟨a, dx, fs, rfl, ha, q⟩ := h
  obtain rfl := Vals.ref1 r
  obtain ⟨g, hs, hf, F⟩ := c
  obtain ⟨mA, J, _⟩ := ins_get I.hok ha
  obtain ⟨od, J, _⟩ := J.look
  obtain ⟨m, fr⟩ := I.fr
  have hr1 : Room n X.A.in1 := Room.in1 hr
  refine PySem.W.len_K fr I.ok.mod.kin J hs hf (wpAny_mono (wpAny_call (SlX.run_at (us := [.ref a]) (ws := [.ref a]) F hr1 I.env0.in1 pass0 I (.cons rfl .nil) q)) (fun v s' z => ?_) fun _ _ x => x)
  obtain ⟨z', H', I', rz, i, rfl, h0, h1, qz⟩ := z
  obtain ⟨t, rfl⟩ := (show ∃ t, v = Value.int i t from rz)
  exact ⟨⟨h0, h1⟩, .int i, H', I'.tok _, ⟨_, rfl⟩, qz⟩
theorem call_reprO (c : OwnF X.prog X.w X.K X.mg X.base n C "__repr__" sp) (hr : Room (n + 1) X.A) : CallR X (.builtin "repr") (rReprO C sp) := by
  intro pins s σ H xs us Q I r h
  obtain ⟨a, dx, fs, rfl, ha, q⟩ := h
  obtain rfl := Vals.ref1 r
  obtain ⟨g, hs, hf, F⟩ := c
  obtain ⟨mA, J, _⟩ := ins_get I.hok ha
  obtain ⟨od, J, _⟩ := J.look
  obtain ⟨m, fr⟩ := I.fr
  have hr1 : Room n X.A.in1 := Room.in1 hr
  refine PySem.W.repr_K hr1.units0 fr I.ok.mod.kin J hs hf (wpAny_mono (wpAny_call (SlX.run_at (us := [.ref a]) (ws := [.ref a]) F hr1 I.env0.in1 pass0 I (.cons rfl .nil) q)) (fun v s' z => ?_) fun _ _ x => x)
  obtain ⟨z', H', I', rz, i, rfl, qz⟩ := z
  obtain ⟨t, rfl⟩ := (show ∃ t, v = Value.str i t from rz)
  exact ⟨.str i, H', I', ⟨_, rfl⟩, qz⟩
end
section
variable {prog : Program} {w : World} {A : Around} {E : Value → Shared → Prop} {s : Shared} {K : PySem.W.Frag} {x C f : Addr} {ox : Obj} {od : Option Obj}
theorem len_bodyO {Q : Value → Shared → Prop} (X : K.In s.heap) (I : PySem.W.InstAt s.heap x ox C od) (hs : PySem.W.findIn K (.ref C) "__len__" = some (some (.ref f))) (hf : PySem.W.isFn K (.ref f) = true)
    (h : wpAny (model prog w) A (call (.ref f) [.ref x]) (PySem.W.LenBack Q) E s) : wpAny (model prog w) A (Builtin.«len» ⟨[.ref x], []⟩) (fun fin s' => ∃ r, fin = .done (.ret r) ∧ Q r s') E s := by
  unfold Builtin.«len»
  refine wpAny_bind (m := oneArg "len" _) (wpAny_pure ?_)
  refine wpAny_bind (m := callSpecial? (.ref x) (Str.ofString "__len__")) (PySem.W.special_fn X I hs (beq_iff_eq.mp hf) (wpAny_mono h (fun r s' hr => ?_) fun _ _ y => y))
  cases r <;> first | exact hr.elim | skip
  rename_i n u
  obtain ⟨⟨h0, h1⟩, hq⟩ := hr
  refine wpAny_bind (wpAny_holding (wpAny_pure ?_))
  refine wpAny_bind (wpAny_letGo ?_)
  show wpAny _ _ (if n < 0 then _ else _) _ _ _
  rw [if_neg (by omega)]
  show wpAny _ _ (if n ≥ 2 ^ 63 then _ else _) _ _ _
  rw [if_neg (by omega)]
  exact wpAny_bind (wpAny_mkInt (wpAny_pure ⟨_, rfl, hq⟩))
theorem truthyO {Q : Bool → Shared → Prop} (X : K.In s.heap) (I : PySem.W.InstAt s.heap x ox C od) (hb : PySem.W.findIn K (.ref C) "__bool__" = some none) (hs : PySem.W.findIn K (.ref C) "__len__" = some (some (.ref f))) (hf : PySem.W.isFn K (.ref f) = true)
    (h : wpAny (model prog w) A.in1 (call (.ref f) [.ref x]) (PySem.W.LenBack (fun v s' => ∃ n t, v = .int n t ∧ Q (n != 0) s')) E s) : wpAny (model prog w) A (truthy (.ref x)) Q E s := by
  have key : wpAny (model prog w) A (runValue (.builtin "len" ⟨[.ref x], []⟩)) (fun r s' => ∃ n t, r = .int n t ∧ Q (n != 0) s') E s := by
    refine wpAny_runValue (codeAny_builtin entry_len ?_)
    rw [Around.under_plainId plain_len _]
    exact wpAny_mono (len_bodyO (Q := fun r s' => ∃ n t, r = .int n t ∧ Q (n != 0) s') X I hs hf h) (fun fin s' h' => by obtain ⟨r, rfl, hq⟩ := h'; exact hq) fun _ _ e => e
  have hsp : ∀ {Q' : Option Value → Shared → Prop}, Q' (some (.ref f)) s → wpAny (model prog w) A (specialOf (.ref x) "__len__") Q' E s := fun q => by
    unfold specialOf
    exact wpAny_bind (I.type.here ((PySem.W.looks_findIn X hs).here q))
  have hno : ∀ {Q' : Option Value → Shared → Prop}, Q' none s → wpAny (model prog w) A (callSpecial? (.ref x) (Str.ofString "__bool__")) Q' E s := fun q => by
    unfold callSpecial? specialOf
    exact wpAny_bind (wpAny_bind (I.type.here ((PySem.W.looks_findIn X hb).here (wpAny_pure q))))
  unfold truthy
  first
    | refine wpAny_bind (hno ?_)
    | refine wpAny_bind (wpAny_pure (wpAny_bind (hno ?_)))
  first
    | refine wpAny_bind (hsp ?_)
    | refine wpAny_bind (wpAny_pure (wpAny_bind (hsp ?_)))
  first
    | exact wpAny_bind (wpAny_mono key (fun r s' h' => by obtain ⟨n, t, rfl, hq⟩ := h'; exact wpAny_pure hq) fun _ _ e => e)
    | exact wpAny_bind (wpAny_pure (wpAny_bind (wpAny_mono key (fun r s' h' => by obtain ⟨n, t, rfl, hq⟩ := h'; exact wpAny_pure hq) fun _ _ e => e)))
theorem meets_boolO (x : Addr) : MeetsIn prog w (Builtin.«bool.__new__» ⟨[.type "bool", .ref x], []⟩) (fun A R s => wpAny (model prog w) A.in1 (truthy (.ref x)) (fun b s' => R (.ok (.ret (.bool b))) s') (fun e s' => R (.error e) s') s) :=
  fun A R s hs => by
    obtain ⟨hp, g, d, tk, os⟩ := s
    have f1 := F.conv_sub_bool
    repeat (any_goals (first | assumption | (with_reducible refine wpAny_bind (wpAny_mono hs (fun b s' h => ?_) fun _ _ e => e)) | wp_step))
    all_goals first | exact ⟨_, rfl, h⟩ | exact h | skip
end
section
variable {X : Cx} {C : Addr} {n : Nat} {sp : Sp}
theorem call_boolO (hb : PySem.W.findIn X.K (.ref C) "__bool__" = some none) (c : OwnF X.prog X.w X.K X.mg X.base n C "__len__" sp) (hr : Room (n + 3) X.A) : CallR X (.type "bool") (rBoolO C sp) := by
  intro pins s σ H xs us Q I r h
  obtain ⟨a, dx, fs, rfl, ha, q⟩ := h
  obtain rfl := Vals.ref1 r
  obtain ⟨g, hs, hf, F⟩ := c
  obtain ⟨mA, J, _⟩ := ins_get I.hok ha
  obtain ⟨od, J, _⟩ := J.look
  have hr2 : Room n X.A.in1.in1.in1 := (show Room (n + 1) X.A.in1.in1 from (show Room (n + 2) X.A.in1 from Room.in1 hr).in1).in1
  refine callType_newIn PySem.F.called_bool PySem.F.newNe_bool (PySem.F.typeCall_bool_1 (.ref a)) (PySem.F.newCall_bool_1 (.ref a)) (fun obj => PySem.F.args_object_init_2 obj (.ref a)) PySem.F.entry_bool_new (meets_boolO a) ?_
  refine truthyO I.kIn J hb hs hf (wpAny_mono (wpAny_call (SlX.run_at (us := [.ref a]) (ws := [.ref a]) F hr2 I.env0.in1.in1.in1 pass0 I (.cons rfl .nil) q)) (fun v s' z => ?_) fun _ _ x => x)
  obtain ⟨z', H', I', rz, i, rfl, h0, h1, qz⟩ := z
  obtain ⟨t, rfl⟩ := (show ∃ t, v = Value.int i t from rz)
  exact ⟨⟨h0, h1⟩, i, _, rfl, rfl, .bl (i != 0), H', I'.tok _, rfl, qz⟩
end
end WB
namespace WB
open PySem PySem.Spec PyProof.Rows L2 Builtin
/-! ### == and != of an instance and something else -/
section
variable {prog : Program} {w : World} {A : Around} {E : Value → Shared → Prop} {s : Shared} {K : PySem.W.Frag} {x C f : Addr} {b tb : Value} {ox : Obj} {od : Option Obj}
theorem call_objNeY {Q : Value → Shared → Prop} (hu : A.in1.units < cLine) (X : K.In s.heap) (I : PySem.W.InstAt s.heap x ox C od) (hm : PySem.W.mroIn K C (.type "object") = some true)
    (hs : PySem.W.findIn K (.ref C) "__eq__" = some (some (.ref f))) (hf : PySem.W.isFn K (.ref f) = true)
    (h : wpAny (model prog w) A.in1 (call (.ref f) [.ref x, b]) (fun v s' => ∃ t, v = .bool t ∧ Q (.bool (!t)) s') E s) :
    wpAny (model prog w) A (call (.builtin "object.__ne__") [.ref x, b]) Q E s := by
  refine wpAny_call (codeAny_call_builtin F.cmp_object.ne.plain F.cmpEntry_ne (PySem.W.check_slot F.cmpKind_ne F.cmpSplit_ne (I.type.andThen (PySem.W.looks_mroIn X hm)) (F.cmpArgs_ne _ _) ?_))
  unfold Builtin.«object.__ne__»
  repeat (first | with_reducible refine wpAny_cRoomFor hu ?_ | with_reducible refine PySem.W.ifBound_K X I hs hf (wpAny_mono h (fun v s' hv => ?_) fun _ _ e => e) | wp_step)
  obtain ⟨t, rfl, q⟩ := hv
  exact wpAny_bind (wpAny_truthy_bool (wpAny_pure q))
theorem neY_K {Q : Value → Shared → Prop} (hu : A.units < cLine) (hu1 : A.in1.units < cLine) (X : K.In s.heap) (I : PySem.W.InstAt s.heap x ox C od) (hb : PySem.W.Looks (model prog w) s.heap (typeOf b) tb) (hn : PySem.W.notFirst K C tb = true)
    (hne : PySem.W.findIn K (.ref C) "__ne__" = some (some (.builtin "object.__ne__"))) (hm : PySem.W.mroIn K C (.type "object") = some true) (hs : PySem.W.findIn K (.ref C) "__eq__" = some (some (.ref f))) (hf : PySem.W.isFn K (.ref f) = true)
    (h : wpAny (model prog w) A.in1 (call (.ref f) [.ref x, b]) (fun v s' => ∃ t, v = .bool t ∧ Q (.bool (!t)) s') E s) : wpAny (model prog w) A (richCompare .NotEq (.ref x) b) Q E s := by
  have one : wpAny (model prog w) A (tryCompare (.ref x) (cmpInfo .NotEq).2.1 b) (fun r s' => ∃ v, r = some v ∧ Q v s') E s := by
    unfold tryCompare
    refine wpAny_bind (ifBound_objNe X I hne (call_objNeY hu1 X I hm hs hf (wpAny_mono h (fun v s' hv => ?_) fun _ _ e => e)))
    obtain ⟨t, rfl, q⟩ := hv
    exact ⟨t, rfl, wpAny_pure ⟨_, rfl, q⟩⟩
  unfold richCompare
  simp only [oneThing_ref]
  refine wpAny_holding (wpAny_bind (wpAny_cRoomFor hu ?_))
  refine wpAny_bind (I.type.here (wpAny_bind (hb.here ?_)))
  split
  · rename_i q
    have e : PySem.W.subIn K tb (.ref C) = some false := by
      rcases Bool.or_eq_true_iff.mp hn with e | e
      · rw [beq_iff_eq.mp e] at q; simp at q
      · exact beq_iff_eq.mp e
    refine wpAny_bind ((PySem.W.looks_subIn X e).here ?_)
    simp only [Bool.false_eq_true, if_false]
    refine wpAny_bind (wpAny_mono one (fun r s' z => ?_) fun _ _ e => e)
    obtain ⟨v, rfl, hq⟩ := z
    exact wpAny_pure hq
  · refine wpAny_bind (wpAny_pure ?_)
    simp only [Bool.false_eq_true, if_false]
    refine wpAny_bind (wpAny_mono one (fun r s' z => ?_) fun _ _ e => e)
    obtain ⟨v, rfl, hq⟩ := z
    exact wpAny_pure hq
end
def TyY (H : Hp) : V → Value → Prop := fun y t => (∃ p xs, y = .ref p ∧ H p = some (.lst xs) ∧ t = .type "list") ∨ (∃ x, y = .str x ∧ t = .type "str") ∨ (∃ i, y = .int i ∧ t = .type "int")
theorem tyY_looks {X : Cx} {pins : List (Addr × Obj)} {σ : L2.St} {H : Hp} {s : Shared} {y : V} {u t : Value} (I : Inv X pins σ H s) (ry : RelV y u) (h : TyY H y t) : PySem.W.Looks (model X.prog X.w) s.heap (typeOf u) t := by
  rcases h with ⟨p, xs, rfl, hp, rfl⟩ | ⟨x, rfl, rfl⟩ | ⟨i, rfl, rfl⟩
  · cases (show u = Value.ref p from ry)
    obtain ⟨_, _, n, _, h1⟩ := (show ObjOk X.prog X.w H s.heap p (.lst xs) from I.hok p _ hp)
    exact fun A Q E s' k q => wpAny_typeOf_ref (k _ _ h1) q
  · obtain ⟨t, rfl⟩ := (show ∃ t, u = Value.str x t from ry)
    exact fun A Q E s' k q => wpAny_pure q
  · obtain ⟨t, rfl⟩ := (show ∃ t, u = Value.int i t from ry)
    exact fun A Q E s' k q => wpAny_pure q
def rEqY (K : PySem.W.Frag) (C : Addr) (sp : Sp) : R2 := fun x y H Q => ∃ a dx fs t, x = .ref a ∧ H a = some (.ins C dx fs) ∧ TyY H y t ∧ PySem.W.subIn K t (.ref C) = some false ∧ sp [x, y] H Q E0
def rNeY (K : PySem.W.Frag) (C : Addr) (sp : Sp) : R2 := fun x y H Q => ∃ a dx fs t, x = .ref a ∧ H a = some (.ins C dx fs) ∧ TyY H y t ∧ PySem.W.subIn K t (.ref C) = some false ∧ sp [x, y] H (fun v H' => ∃ t, v = .bl t ∧ Q (.bl (!t)) H') E0
section
variable {X : Cx} {C : Addr} {n : Nat} {sp : Sp} (K : PySem.W.Frag)
theorem op_eqY (hK : X.K = K) (c : EqF X.prog X.w X.K X.mg X.base n C sp) (hr : Room n X.A) : OpR X (compareOp .Eq) (rEqY K C sp) := by
  subst hK
  obtain ⟨g, hs, hf, F, hne, hm⟩ := c
  intro pins s σ H x y v u Q I rx ry h
  obtain ⟨a, dx, fs, t, rfl, ha, ht, hsub, q⟩ := h
  cases (show v = Value.ref a from rx)
  obtain ⟨mA, J, _⟩ := ins_get I.hok ha
  obtain ⟨od, J, _⟩ := J.look
  obtain ⟨m, hF⟩ := I.fr
  show wpAny _ _ (richCompare .Eq (.ref a) u) _ _ _
  refine PySem.W.cmp_K (op := .Eq) (tb := t) hr.units0 hF I.ok.mod.kin J (tyY_looks I ry ht) (by unfold PySem.W.notFirst; rw [hsub]; simp) hs hf ?_
  refine wpAny_mono (wpAny_call (run_fnR (us := [.ref a, u]) (vs := [.ref a, y]) F hr pass0 I (.cons rfl (.cons ry .nil)) q)) (fun w s' z => ?_) fun _ _ x => x
  obtain ⟨z', H', I', rz, qz⟩ := z
  exact SlX.cmpback rz ⟨z', H', I', rz, qz⟩
theorem op_neY (hK : X.K = K) (c : EqF X.prog X.w X.K X.mg X.base n C sp) (hr : Room (n + 1) X.A) : OpR X (compareOp .NotEq) (rNeY K C sp) := by
  subst hK
  obtain ⟨g, hs, hf, F, hne, hm⟩ := c
  intro pins s σ H x y v u Q I rx ry h
  obtain ⟨a, dx, fs, t, rfl, ha, ht, hsub, q⟩ := h
  cases (show v = Value.ref a from rx)
  obtain ⟨mA, J, _⟩ := ins_get I.hok ha
  obtain ⟨od, J, _⟩ := J.look
  have hr1 : Room n X.A.in1 := Room.in1 hr
  refine neY_K (tb := t) hr.units0 hr1.units0 I.kIn J (tyY_looks I ry ht) (by unfold PySem.W.notFirst; rw [hsub]; simp) hne hm hs hf (wpAny_mono (wpAny_call (SlX.run_at (us := [.ref a, u]) (ws := [.ref a, y]) F hr1 I.env0.in1 pass0 I (.cons rfl (.cons ry .nil)) q)) (fun w s' z => ?_) fun _ _ x => x)
  obtain ⟨z', H', I', rz, t', rfl, qz⟩ := z
  cases (show w = Value.bool t' from rz)
  exact ⟨t', rfl, .bl (!t'), H', I', rfl, qz⟩
end
end WB
namespace WB
open PySem PySem.Spec PyProof.Rows L2
/-! ### what a call makes of a thing, and the run of a method within its own things -/
instance : NT (tG []) := ⟨fun H h a ha => by cases ha⟩
instance (T : Th) (Ts : List Th) [i : NT T] [j : NT (tG Ts)] : NT (tG (T :: Ts)) := ⟨fun H h a ha o e => by
  have g : Hs [] (T :: Ts) H := h
  have ha : a ∈ (T :: Ts).flatMap (·.ft) := ha
  rw [List.flatMap_cons] at ha
  rcases List.mem_append.mp ha with q | q
  · exact i.nt H g.head a q o e
  · exact j.nt H g.tail a q o e⟩
instance (r C dx : Addr) (fs : List (Str × V)) : NT (tO r (.ins C dx fs)) := ⟨fun H h b hb o e => by
  rw [in1 hb, h.1] at e
  cases e
  trivial⟩
instance (r : Addr) (ks : List (Key × V)) : NT (tO r (.dK ks)) := ⟨fun H h b hb o e => by
  rw [in1 hb, h.1] at e
  cases e
  trivial⟩
/-- T became these things, all of them of its places or new -/
structure Up (T : Th) (Us : List Th) (H H' : Hp) : Prop where
  mv : MvF T.ft H H'
  nt : ∀ a o, H a = some o → ¬ noT o → H' a = some o
  hs : Hs [] Us H'
  ow : ∀ x ∈ Us, ∀ a ∈ x.ft, a ∈ T.ft ∨ H a = none
theorem nt_of {T : Th} [i : NT T] {H H' : Hp} (h : T.P H) (m : MvF T.ft H H') : ∀ a o, H a = some o → ¬ noT o → H' a = some o := fun a o e n => m.kp a o (fun z => n (i.nt H h a z o e)) e
section
variable {K : PySem.W.Frag} {L : List (Addr × List V)} {T0 : List (Addr × Str)} {Ts Us : List Th} {T : Th} {H H' : Hp}
theorem Hs.upH (h : Hs T0 (T :: Ts) H) (u : Up T Us H H') : Hs T0 (Us ++ Ts) H' := by
  have t : Hs T0 Ts H' := by
    refine ⟨fun i x hi => x.loc H H' (fun a ha o e => u.mv.kp a o (fun z => ?_) e) (h.tail.all i x hi), h.tail.sep, tabs_keep h.tab fun a o e np => u.mv.kp a o (fun z => ?_) e⟩
    · exact h.apart (List.mem_of_getElem? hi) a z ha
    · obtain ⟨o', e1, e2⟩ := T.al H h.head a z
      rw [e1] at e
      cases e
      exact np e2
  refine Hs.app u.hs t (fun x hx y hy a ha hb => ?_)
  rcases u.ow x hx a ha with z | z
  · exact h.apart hy a z hb
  · obtain ⟨i, hi⟩ := List.getElem?_of_mem hy
    exact y.live (h.tail.all i y hi) hb z
theorem Hw.upH (h : Hw K L T0 (T :: Ts) H) (u : Up T Us H H') : Hw K L T0 (Us ++ Ts) H' := ⟨h.hs.upH u, fun p hp => sqT_keep (fun o e n => u.nt _ o e n) (h.tf p hp)⟩
theorem Hw.frontI (h : Hw K L T0 Ts H) (i : Nat) (hi : Ts[i]? = some T) : Hw K L T0 (T :: Ts.eraseIdx i) H := ⟨h.hs.perm (perm_at hi).symm, h.tf⟩
theorem Hw.up (h : Hw K L T0 Ts H) (i : Nat) (hi : Ts[i]? = some T) (u : Up T Us H H') : Hw K L T0 (Us ++ Ts.eraseIdx i) H' := (h.frontI i hi).upH u
/-- only new things came -/
theorem Hw.upN (h : Hw K L T0 Ts H) (u : Up (tG []) Us H H') : Hw K L T0 (Us ++ Ts) H' := Hw.upH (T := tG []) ⟨Hs.group (Ts := []) h.hs, h.tf⟩ u
end
/-- within a call: the own things, what changed since its beginning -/
structure Rn (K : PySem.W.Frag) (H0 : Hp) (F : List Addr) (L : List (Addr × List V)) (Ts : List Th) (H : Hp) : Prop where
  hw : Hw K L [] Ts H
  mv : MvF F H0 H
  nt : ∀ a o, H0 a = some o → ¬ noT o → H a = some o
  ow : ∀ x ∈ Ts, ∀ a ∈ x.ft, a ∈ F ∨ H0 a = none
section
variable {K : PySem.W.Frag} {L L' : List (Addr × List V)} {Ts Us As Bs : List Th} {T T' : Th} {H0 H H' : Hp} {F : List Addr} {a p : Addr} {xs ys : List V} {o o' : HO}
theorem Rn.start {Ts : List Th} (h : (tG Ts).P H) : Rn K H (tG Ts).ft [] Ts H := ⟨.of h, .refl _ _, fun _ _ e _ => e, fun x hx a ha => .inl (List.mem_flatMap.mpr ⟨x, hx, ha⟩)⟩
theorem Rn.start0 : Rn K H [] [] [] H := ⟨.of .nil0, .refl _ _, fun _ _ e _ => e, fun x hx => absurd hx List.not_mem_nil⟩
theorem Rn.at (h : Rn K H0 F L Ts H) (i : Nat) (hi : Ts[i]? = some (tO p o)) : H p = some o := h.hw.at i hi
theorem Rn.get (h : Rn K H0 F L Ts H) (i : Nat) (hi : Ts[i]? = some T) : T.P H := h.hw.get i hi
theorem Rn.tup (h : Rn K H0 F L Ts H) (i : Nat) (hi : L[i]? = some (a, xs)) : SqT K H a xs := h.hw.tup i hi
theorem Rn.same (h : Rn K H0 F L Ts H) (s : Same H H') : Rn K H0 F L Ts H' := ⟨h.hw.same s, h.mv.same s, fun a o e n => s a o (h.nt a o e n), h.ow⟩
theorem Rn.know (h : Rn K H0 F L Ts H) (t : SqT K H a xs) : Rn K H0 F ((a, xs) :: L) Ts H := ⟨h.hw.know t, h.mv, h.nt, h.ow⟩
theorem Rn.knows (h : Rn K H0 F L Ts H) (t : TF K L' H) : Rn K H0 F (L' ++ L) Ts H := ⟨⟨h.hw.hs, fun p hp => (List.mem_append.mp hp).elim (t p) (h.hw.tf p)⟩, h.mv, h.nt, h.ow⟩
theorem Rn.selT (h : Rn K H0 F L Ts H) (hs : ∀ q ∈ L', q ∈ L) : Rn K H0 F L' Ts H := ⟨h.hw.selT hs, h.mv, h.nt, h.ow⟩
theorem mem_pickTs : ∀ {is : List Nat} {x : Th}, x ∈ pickTs Ts is → x ∈ Ts := fun {is x} h => by
  obtain ⟨k, hk⟩ := List.getElem?_of_mem h
  obtain ⟨i, _, q⟩ := mem_pick hk
  exact List.mem_of_getElem? q
theorem Rn.sel (h : Rn K H0 F L Ts H) (is : List Nat) (hn : is.Nodup) : Rn K H0 F L (pickTs Ts is) H := ⟨h.hw.sel is hn, h.mv, h.nt, fun x hx => h.ow x (mem_pickTs hx)⟩
theorem Rn.free (h : Rn K H0 F L Ts H) (n : H p = none) : H0 p = none := h.mv.free n
theorem Rn.keep (h : Rn K H0 F L Ts H) (n : a ∉ F) (e : H0 a = some o) : H a = some o := h.mv.kp a o n e
theorem Rn.keepT (h : Rn K H0 F L Ts H) (e : SqT K H0 a xs) : SqT K H a xs := sqT_keep (fun o e n => h.nt _ o e n) e
theorem sqL_keep {H H' : Hp} (kp : ∀ o, H a = some o → H' a = some o) (h : SqL K H a xs) : SqL K H' a xs := by
  rcases h with (h | ⟨o, h⟩) | h
  · exact .inl (.inl (kp _ h))
  · exact .inl (.inr ⟨o, kp _ h⟩)
  · exact .inr h
theorem Rn.keepL (h : Rn K H0 F L Ts H) (n : a ∉ F) (e : SqL K H0 a xs) : SqL K H a xs := sqL_keep (fun o e => h.mv.kp _ o n e) e
theorem Rn.up (h : Rn K H0 F L Ts H) (i : Nat) (hi : Ts[i]? = some T) (u : Up T Us H H') : Rn K H0 F L (Us ++ Ts.eraseIdx i) H' := by
  have hT := h.ow T (List.mem_of_getElem? hi)
  refine ⟨h.hw.up i hi u, h.mv.trans2 u.mv hT, fun a o e n => u.nt a o (h.nt a o e n) n, fun x hx a ha => ?_⟩
  rcases List.mem_append.mp hx with q | q
  · rcases u.ow x q a ha with z | z
    · exact hT a z
    · exact .inr (h.free z)
  · exact h.ow x (List.mem_of_mem_eraseIdx q) a ha
theorem Rn.upN (h : Rn K H0 F L Ts H) (u : Up (tG []) Us H H') : Rn K H0 F L (Us ++ Ts) H' := by
  refine ⟨h.hw.upN u, h.mv.same u.mv.toSame, fun a o e n => u.nt a o (h.nt a o e n) n, fun x hx a ha => ?_⟩
  rcases List.mem_append.mp hx with q | q
  · rcases u.ow x q a ha with z | z
    · cases z
    · exact .inr (h.free z)
  · exact h.ow x q a ha
theorem up_put {p : Addr} {o o' : HO} (e : H p = some o) (n : noT o) (pl : plain o' := by exact trivial) : Up (tO p o) [tO p o'] H (upd H p o') := by
  have m : MvF [p] H (upd H p o') := (MvF.refl [p] H).upd (.head _)
  refine ⟨m, fun a u eu nu => m.kp a u (fun z => ?_) eu, Hs.nil0.cons ⟨upd_same, pl⟩ (fun j y hj => by cases hj), fun x hx a ha => ?_⟩
  · rw [in1 z, e] at eu
    cases eu
    exact nu n
  · rw [List.mem_singleton.mp hx] at ha
    exact .inl ha
theorem up_new {p : Addr} {o : HO} (n : H p = none) (pl : plain o := by exact trivial) : Up (tG []) [tO p o] H (upd H p o) :=
  ⟨.of (same_upd n), fun a u e _ => same_upd n a u e, Hs.nil0.cons ⟨upd_same, pl⟩ (fun j y hj => by cases hj), fun x hx a ha => by
    rw [List.mem_singleton.mp hx] at ha
    rw [in1 ha]
    exact .inr n⟩
theorem up_newS {p : Addr} {o : HO} (s : Same H H') (n : H p = none) (e : H' p = some o) (pl : plain o := by exact trivial) : Up (tG []) [tO p o] H H' :=
  ⟨.of s, fun a u e _ => s a u e, Hs.nil0.cons ⟨e, pl⟩ (fun j y hj => by cases hj), fun x hx a ha => by
    rw [List.mem_singleton.mp hx] at ha
    rw [in1 ha]
    exact .inr n⟩
theorem Rn.put (h : Rn K H0 F L Ts H) (i : Nat) (hi : Ts[i]? = some (tO p o)) (n : noT o := by exact trivial) (pl : plain o' := by exact trivial) : Rn K H0 F L ([tO p o'] ++ Ts.eraseIdx i) (upd H p o') := h.up i hi (up_put (h.at i hi) n pl)
theorem Rn.newL (h : Rn K H0 F L Ts H) (n : H p = none) : Rn K H0 F L (tL p xs :: Ts) (upd H p (.lst xs)) := h.upN (up_new n)
theorem Rn.newO (h : Rn K H0 F L Ts H) (n : H p = none) (pl : plain o := by exact trivial) : Rn K H0 F L (tO p o :: Ts) (upd H p o) := h.upN (up_new n pl)
theorem Rn.newS (h : Rn K H0 F L Ts H) (s : Same H H') (n : H p = none) (e : H' p = some o) (pl : plain o := by exact trivial) : Rn K H0 F L (tO p o :: Ts) H' := h.upN (up_newS s n e pl)
theorem Rn.newT (h : Rn K H0 F L Ts H) (n : H p = none) : Rn K H0 F ((p, xs) :: L) Ts (upd H p (.tup xs)) := (h.same (same_upd n)).know (SqT.of upd_same)
theorem flat_ft {a : Addr} (ha : a ∈ (tG As).ft) : ∃ x ∈ As, a ∈ x.ft := List.mem_flatMap.mp ha
theorem Rn.grp {As Bs : List Th} (h : Rn K H0 F L (As ++ Bs) H) : Rn K H0 F L (tG As :: Bs) H := ⟨⟨h.hw.hs.group, h.hw.tf⟩, h.mv, h.nt, fun x hx a ha => by
  rcases List.mem_cons.mp hx with q | q
  · rw [q] at ha
    obtain ⟨y, hy, ha⟩ := flat_ft ha
    exact h.ow y (List.mem_append_left _ hy) a ha
  · exact h.ow x (List.mem_append_right _ q) a ha⟩
theorem Rn.ungrp {As Bs : List Th} (h : Rn K H0 F L (tG As :: Bs) H) : Rn K H0 F L (As ++ Bs) H := ⟨⟨h.hw.hs.ungroup, h.hw.tf⟩, h.mv, h.nt, fun x hx a ha => by
  rcases List.mem_append.mp hx with q | q
  · exact h.ow (tG As) (.head _) a (List.mem_flatMap.mpr ⟨x, q, ha⟩)
  · exact h.ow x (.tail _ q) a ha⟩
theorem Rn.out (h : Rn K H0 (tG As).ft L Us H) : Up (tG As) Us H0 H := ⟨h.mv, h.nt, h.hw.hs.tabs0, fun x hx a ha => h.ow x hx a ha⟩
theorem Rn.out0 (h : Rn K H0 [] L Us H) : Up (tG []) Us H0 H := ⟨h.mv, h.nt, h.hw.hs.tabs0, fun x hx a ha => h.ow x hx a ha⟩
theorem Hw.grp {T0 : List (Addr × Str)} {As Bs : List Th} (h : Hw K L T0 (As ++ Bs) H) : Hw K L T0 (tG As :: Bs) H := ⟨h.hs.group, h.tf⟩
theorem Hw.ungrp {T0 : List (Addr × Str)} {As Bs : List Th} (h : Hw K L T0 (tG As :: Bs) H) : Hw K L T0 (As ++ Bs) H := ⟨h.hs.ungroup, h.tf⟩
/-- a thing taken apart, one of its own changed, put together again -/
theorem Up.refl (T : Th) (h : T.P H) : Up T [T] H H := ⟨.refl _ _, fun _ _ e _ => e, Hs.nil0.cons h (fun j y hj => by cases hj), fun x hx a ha => by rw [List.mem_singleton.mp hx] at ha; exact .inl ha⟩
end
end WB
namespace WB
open PySem PySem.Spec PyProof.Rows L2
/-! ### list(zip(xs, ys)) of two lists -/
theorem zl_no_len : typeLookup (.type "zip") "__len__" = pure none := by rw [typeLookup_type, builtinLookup_eq_fast]; kernel_rfl
theorem zl_no_hint : typeLookup (.type "zip") "__length_hint__" = pure none := by rw [typeLookup_type, builtinLookup_eq_fast]; kernel_rfl
/-- how far the zip is -/
def ZlAt (h : Heap) (z TI TO i1 i2 a b S : Addr) (i : Nat) : Prop :=
  IsPair h TI (.ref i1) (.ref i2) ∧ h.IsListIter i1 a i ∧ h.IsListIter i2 b i ∧
    ((IsZip h z TI TO .none ∧ ∃ x y, IsPair h TO x y) ∨ ∃ T f oT, IsZipHeld h z TI TO T f ∧ h.get? T = some oT ∧ T ≠ z ∧ T ≠ i1 ∧ T ≠ i2 ∧ T ≠ S) ∧ ∃ o, h.get? TO = some o
theorem ZlAt.but {h h' : Heap} {z TI TO i1 i2 a b S : Addr} {i : Nat} (x : ZlAt h z TI TO i1 i2 a b S i) (n1 : S ≠ z) (n2 : S ≠ TI) (n3 : S ≠ TO) (n4 : S ≠ i1) (n5 : S ≠ i2) (k : ∀ c o, c ≠ S → h.get? c = some o → h'.get? c = some o) : ZlAt h' z TI TO i1 i2 a b S i := by
  obtain ⟨x1, x2, x3, x4, oO, hO'⟩ := x
  refine ⟨k _ _ (Ne.symm n2) x1, x2.at fun o e => k _ o (Ne.symm n4) e, x3.at fun o e => k _ o (Ne.symm n5) e, ?_, oO, k _ _ (Ne.symm n3) hO'⟩
  rcases x4 with ⟨hz, x, y, hO⟩ | ⟨T, f, oT, hz, hT, r1, r2, r3, r4⟩
  · exact .inl ⟨k _ _ (Ne.symm n1) hz, x, y, k _ _ (Ne.symm n3) hO⟩
  · exact .inr ⟨T, f, oT, k _ _ (Ne.symm n1) hz, k _ _ r4 hT, r1, r2, r3, r4⟩
structure ZlOut (K : PySem.W.Frag) (H H' : Hp) (S : Addr) (xs ys : List V) (n : Nat) : Prop where
  same : ∀ c o, c ≠ S → H c = some o → H' c = some o
  lst : ∃ ts : List Addr, H' S = some (.lst (ts.map V.ref)) ∧ ts.length = n ∧ ∀ (j : Nat) (t : Addr), ts[j]? = some t → t ≠ S ∧ H t = none ∧ ∃ x y, xs[j]? = some x ∧ ys[j]? = some y ∧ H' t = some (.tup [x, y])
section
variable {X : Cx} {pins : List (Addr × Obj)} {σ : L2.St} {xs ys : List V} {z TI TO i1 i2 a b S : Addr}
theorem zl_loop (hc : X.calm = true) (D : ZipApart z TI TO i1 i2 a b) (S1 : S ≠ z) (S2 : S ≠ TI) (S3 : S ≠ TO) (S4 : S ≠ i1) (S5 : S ≠ i2) (hn : xs.length ≤ sizeLine) (hl : xs.length = ys.length) {H0 : Hp} {A : Around} (hA : A.handled = none) {R : Result → Shared → Prop}
    (hR : ∀ H' s', Inv X pins σ H' s' → ZlOut X.K H0 H' S xs ys xs.length → R (.ok (.ret .none)) s') :
    ∀ (k i : Nat) (H : Hp) (s : Shared), xs.length - i = k → i ≤ xs.length → Inv X pins σ H s → (∀ c ∈ [z, TI, TO, i1, i2], FpOk X pins H c) → SqL X.K H a xs → SqL X.K H b ys → ZlAt s.heap z TI TO i1 i2 a b S i → ZlOut X.K H0 H S xs ys i → a ≠ S → b ≠ S →
      codeAny (model X.prog X.w) A (.builtin "list.extend.loop" ⟨[.ref S, .ref z, .none], []⟩) R s := by
  intro k
  induction k with
  | zero =>
    intro i H s hk hi I hf qa qb st out aS bS
    have hin : i = xs.length := by omega
    subst hin
    obtain ⟨its, rv, pa, _⟩ := I.list qa
    obtain ⟨its2, rv2, pb, _⟩ := I.list qb
    have l1 := rv.length
    have he : its.toArray[xs.length]? = none ∨ its2.toArray[xs.length]? = none := .inl (by simp; omega)
    refine codeAny_builtin PySem.F.entry_extend_loop ?_
    rw [Around.under_plainId PySem.F.plain_extend_loop _]
    show wpAny _ A.in1 (pyNext (.ref z) >>= _) _ _ _
    obtain ⟨hI, h1, h2, hz, oO, hO'⟩ := st
    have fin : ∀ h', (∀ c o, c ≠ z → c ≠ TO → c ≠ i1 → c ≠ i2 → s.heap.get? c = some o → h'.get? c = some o) → R (.ok (.ret .none)) { s with heap := h' } := fun h' hk' =>
      hR H _ (I.turnedL (t' := s.toks) (ch := [z, TI, TO, i1, i2]) (fun c o hb q => hk' c o (fun q' => hb (by simp [q'])) (fun q' => hb (by simp [q'])) (fun q' => hb (by simp [q'])) (fun q' => hb (by simp [q'])) q) hf) out
    rcases hz with ⟨hz, x, y, hO⟩ | ⟨T, f, oT, hz, hT, r1, r2, r3, r4⟩
    · exact wpAny_bind (wpAny_pyNext_zip_end (A := A.in1) hA D hz hI hO h1 h2 pa.isList pb.isList he fun h' hk' => wpAny_pure (fin h' hk'))
    · exact wpAny_bind (wpAny_pyNext_zip_end_held (A := A.in1) hA D hz hT hI h1 h2 pa.isList pb.isList he fun h' hk' => wpAny_pure (fin h' fun c o c1 _ c3 c4 e => hk' c o c1 c3 c4 e))
  | succ k ih =>
    intro i H s hk hi I hf qa qb st out aS bS
    have hlt : i < xs.length := by omega
    obtain ⟨its, rv, pa, _⟩ := I.list qa
    obtain ⟨its2, rv2, pb, _⟩ := I.list qb
    obtain ⟨x, hx⟩ := getElem?_ex hlt
    obtain ⟨y, hy⟩ := getElem?_ex (show i < ys.length by omega)
    obtain ⟨u, hu, ru⟩ := rv.get hx
    obtain ⟨v, hv, rw_⟩ := rv2.get hy
    have ex : its.toArray[i]? = some u := by simpa using hu
    have ey : its2.toArray[i]? = some v := by simpa using hv
    refine codeAny_builtin PySem.F.entry_extend_loop ?_
    rw [Around.under_plainId PySem.F.plain_extend_loop _]
    show wpAny _ A.in1 (pyNext (.ref z) >>= _) _ _ _
    obtain ⟨hI, h1, h2, hz, oO, hO'⟩ := st
    obtain ⟨sm, ts, hSl, htl, hts⟩ := out
    have lt : ∀ {c o}, s.heap.get? c = some o → s.heap.objs.size ≠ c := fun e => Nat.ne_of_gt (Heap.lt_size e)
    have n1 : s.heap.objs.size ≠ i1 := let ⟨_, e, _⟩ := h1; lt e
    have n2 : s.heap.objs.size ≠ i2 := let ⟨_, e, _⟩ := h2; lt e
    have nS : s.heap.objs.size ≠ S := Nat.ne_of_gt (I.hok.lt hSl)
    have na : s.heap.objs.size ≠ a := Nat.ne_of_gt pa.lt
    have nb : s.heap.objs.size ≠ b := Nat.ne_of_gt pb.lt
    have nTI : s.heap.objs.size ≠ TI := lt hI
    have nz : s.heap.objs.size ≠ z := by rcases hz with ⟨hz, _⟩ | ⟨_, _, _, hz, _⟩ <;> exact lt hz
    have hfr : H s.heap.objs.size = none := I.hok.fresh (Nat.le_refl _)
    -- what follows a draw
    have after : ∀ h', IsPair h' TI (.ref i1) (.ref i2) → h'.IsListIter i1 a (i + 1) → h'.IsListIter i2 b (i + 1) → IsPair h' s.heap.objs.size u v →
        (∃ T f oT, IsZipHeld h' z TI TO T f ∧ h'.get? T = some oT ∧ T ≠ z ∧ T ≠ i1 ∧ T ≠ i2 ∧ T ≠ S) → (∃ o, h'.get? TO = some o) →
        (∀ c o, c ≠ z → c ≠ TO → c ≠ i1 → c ≠ i2 → s.heap.get? c = some o → h'.get? c = some o) →
        wpAny (model X.prog X.w) A.in1 (updateSeq S (·.push (Value.ref s.heap.objs.size)) >>= fun _ => again (.builtin "list.extend.loop" ⟨[.ref S, .ref z, .none], []⟩))
          (fun fin s' => match fin with | .done f => R (.ok f) s' | .again c' => c'.quiet = true ∧ codeAny (model X.prog X.w) A c' R s') (fun e s' => R (.error e) s') { s with heap := h' } := by
      intro h' a1 a3 a4 a5 a6 a7 hk'
      have J : Inv X pins σ (upd H s.heap.objs.size (.tup [x, y])) { s with heap := h', toks := s.toks } :=
        I.turnedNew (ch := [z, TI, TO, i1, i2]) (fun c o hb q => hk' c o (fun q' => hb (by simp [q'])) (fun q' => hb (by simp [q'])) (fun q' => hb (by simp [q'])) (fun q' => hb (by simp [q'])) q) hf (Nat.le_refl _) ⟨by show 2 ≤ sizeLine; decide, [u, v], .cons ru (.cons rw_ .nil), _, a5, rfl, _, rfl⟩
      have hS' : upd H s.heap.objs.size (.tup [x, y]) S = some (.lst (ts.map V.ref)) := by rw [upd_ne (Ne.symm nS)]; exact hSl
      obtain ⟨hz0, its3, nn, r3, l3, e3⟩ := J.lstM hS'
      have e3 : h'.get? S = some { cls := .type "list", data := .seq its3.toArray nn } := e3
      have hlen : its3.length = i := by rw [← l3, List.length_map, htl]
      refine wpAny_bind ?_
      refine wpAny_updateSeq (s := { s with heap := h' }) e3 rfl (wpAny_pure ⟨plainId_quiet PySem.F.plain_extend_loop _, ?_⟩) (by rw [List.size_toArray]; omega) (by rw [Array.size_push, List.size_toArray]; omega)
      have J2 := J.lset (its' := its3 ++ [Value.ref s.heap.objs.size]) (ys := ts.map V.ref ++ [V.ref s.heap.objs.size]) (t' := s.toks) hS' e3 (f := (·.push (Value.ref s.heap.objs.size))) (by simp) (r3.append (.cons rfl .nil)) (by rw [List.length_append, List.length_map]; show ts.length + 1 ≤ _; omega)
      have up : ∀ c o, c ≠ S → h'.get? c = some o → (h'.update S (Obj.mapSeq (·.push (Value.ref s.heap.objs.size)))).get? c = some o := fun c o hb e => (Heap.get?_update_other _ _ (Ne.symm hb)).trans e
      have keepH : ∀ c o, c ≠ S → H c = some o → upd (upd H s.heap.objs.size (.tup [x, y])) S (.lst (ts.map V.ref ++ [V.ref s.heap.objs.size])) c = some o := fun c o hb e => by rw [upd_ne hb, upd_ne (ne_of_none e hfr)]; exact e
      have sqk : ∀ {c l}, c ≠ S → SqL X.K H c l → SqL X.K (upd (upd H s.heap.objs.size (.tup [x, y])) S (.lst (ts.map V.ref ++ [V.ref s.heap.objs.size]))) c l := fun {c l} hb e => by
        rcases e with (e | ⟨o, e⟩) | e
        · exact .inl (.inl (keepH _ _ hb e))
        · exact .inl (.inr ⟨o, keepH _ _ hb e⟩)
        · exact .inr e
      refine ih (i + 1) _ _ (by omega) hlt J2 (fun c hcm => ?_) (sqk aS qa) (sqk bS qb) (ZlAt.but ⟨a1, a3, a4, .inr a6, a7⟩ S1 S2 S3 S4 S5 up) ⟨fun c o hb e => keepH c o hb (sm c o hb e), ts ++ [s.heap.objs.size], ?_, ?_, ?_⟩ aS bS
      · obtain ⟨f1, f2⟩ := hf c hcm
        refine ⟨?_, f2⟩
        have c1 : c ≠ S := by
          simp only [List.mem_cons, List.not_mem_nil, or_false] at hcm
          rcases hcm with rfl | rfl | rfl | rfl | rfl
          · exact Ne.symm S1
          · exact Ne.symm S2
          · exact Ne.symm S3
          · exact Ne.symm S4
          · exact Ne.symm S5
        have c2 : c ≠ s.heap.objs.size := by
          intro e
          have : ∃ o, s.heap.get? c = some o := by
            simp only [List.mem_cons, List.not_mem_nil, or_false] at hcm
            rcases hcm with rfl | rfl | rfl | rfl | rfl
            · rcases hz with ⟨hz, _⟩ | ⟨_, _, _, hz, _⟩ <;> exact ⟨_, hz⟩
            · exact ⟨_, hI⟩
            · exact ⟨_, hO'⟩
            · exact let ⟨o, e, _⟩ := h1; ⟨o, e⟩
            · exact let ⟨o, e, _⟩ := h2; ⟨o, e⟩
          obtain ⟨o, e2⟩ := this
          exact lt e2 e.symm
        rw [upd_ne c1, upd_ne c2]
        exact f1
      · rw [upd_same, List.map_append]
        rfl
      · rw [List.length_append, htl]
        rfl
      · intro j t hj
        by_cases hjl : j < ts.length
        · rw [List.getElem?_append_left hjl] at hj
          obtain ⟨t1, t2, x', y', e1, e2, e3⟩ := hts j t hj
          exact ⟨t1, t2, x', y', e1, e2, keepH _ _ t1 e3⟩
        · have hj' := List.getElem?_eq_some_iff.mp hj
          have : j = i := by
            have := hj'.1
            rw [List.length_append, htl] at this
            have : j < i + 1 := this
            omega
          subst this
          rw [List.getElem?_append_right (by omega), show j - ts.length = 0 by omega] at hj
          have : t = s.heap.objs.size := (Option.some.inj hj).symm
          subst this
          refine ⟨nS, ?_, x, y, hx, hy, ?_⟩
          · cases e : H0 s.heap.objs.size with
            | none => rfl
            | some o => exact absurd (sm _ _ nS e) (by rw [hfr]; exact fun q => nomatch q)
          · rw [upd_ne nS, upd_same]
    rcases hz with ⟨hz, x0, y0, hO⟩ | ⟨T, f, oT, hz, hT, r1, r2, r3, r4⟩
    · refine wpAny_bind (wpAny_pyNext_zip_item D hz hI hO h1 h2 pa.isList pb.isList ex ey fun h' b1 b2 b3 b4 b5 b6 hk' => ?_)
      exact after h' (hk' _ _ D.TIz D.TITO D.TIi1 D.TIi2 hI) b3 b4 b5 ⟨s.heap.objs.size, false, _, b1, b5, nz, n1, n2, nS⟩ ⟨_, b2⟩ hk'
    · refine wpAny_bind (wpAny_pyNext_zip_item_held D hz hT hI h1 h2 pa.isList pb.isList ex ey fun h' b1 b3 b4 b5 b6 hk' => ?_)
      exact after h' (hk' _ _ D.TIz D.TIi1 D.TIi2 hI) b3 b4 b5 ⟨T, true, oT, b1, hk' _ _ r1 r2 r3 hT, r1, r2, r3, r4⟩ ⟨_, hk' _ _ D.TOz D.TOi1 D.TOi2 hO'⟩ (fun c o c1 _ c3 c4 e => hk' c o c1 c3 c4 e)
end
/-- list(zip(a, b)): a list of new pairs -/
def tListZip (K : PySem.W.Frag) (ta : TA) : TE := fun σ H Q => ta σ H fun vs H1 => ∃ a b xs ys, vs = [.ref a, .ref b] ∧ SqL K H1 a xs ∧ SqL K H1 b ys ∧ xs.length = ys.length ∧ xs.length ≤ 100000 ∧
  ∀ (H' : Hp) (l : Addr) (ts : List Addr), Same H1 H' → H1 l = none → H' l = some (.lst (ts.map V.ref)) → ts.length = xs.length → (∀ (j : Nat) (t : Addr), ts[j]? = some t → t ≠ l ∧ H1 t = none ∧ ∃ x y, xs[j]? = some x ∧ ys[j]? = some y ∧ H' t = some (.tup [x, y])) → Q (.ref l) H'
theorem pe_listzip {X : Cx} (K : PySem.W.Frag) (hK : X.K = K) {e e2 : Expr} {ta : TA} {p p2 pos pos2 : Pos} (hg : Gl X "list") (hm : X.mg "list" = none) (hg2 : Gl X "zip") (hm2 : X.mg "zip" = none) (ha : PA X [e, e2] ta) (hc : X.calm = true := by rfl)
    (hs : starEach [e, e2] X.env = (false, eval e X.env) :: starEach [e2] X.env := by rfl) (hpl : (backTo pos2 (starEach [e2] X.env)).any (·.1) = false := by rfl)
    (hs2 : starEach [.Call (.Name "zip" p2) [e, e2] [] pos2] X.env = (false, eval (.Call (.Name "zip" p2) [e, e2] [] pos2) X.env) :: starEach [] X.env := by rfl) (hpl2 : (backTo pos (starEach [] X.env)).any (·.1) = false := by rfl) :
    PE X (.Call (.Name "list" p) [.Call (.Name "zip" p2) [e, e2] [] pos2] [] pos) (tListZip K ta) := by
  subst hK
  refine ⟨fun pins s σ H Q I h => ?_⟩
  refine wpAny_Call_Name_kw (ld_blt I hg hm PyProof.Rows.boot_list (PyProof.Rows.callWith_type1 ?_ hs2 hpl2))
  rw [hs2]
  show wpAny _ _ (spliced ((false, eval (.Call (.Name "zip" p2) [e, e2] [] pos2) X.env) :: backTo pos (starEach [] X.env))) _ _ s
  refine Calls.spliced_cons ?_
  refine wpAny_Call_Name_kw (ld_blt I hg2 hm2 PyProof.Rows.boot_zip (PyProof.Rows.callWith_type1 (thn (ha.run pos2 pins s σ H _ I h) fun us s1 y => ?_) hs hpl))
  obtain ⟨vs, H1, I1, r1, a, b, xs, ys, ex, hqx, hqy, hl, hz, q⟩ := y
  subst ex
  cases r1 with
  | cons r rr =>
  cases rr with
  | cons r' rr =>
  cases rr
  cases r
  cases r'
  obtain ⟨its, rv, p1, _⟩ := I1.list hqx
  obtain ⟨its2, rv2, p2', _⟩ := I1.list hqy
  have la : a < s1.heap.objs.size := p1.lt
  have lb : b < s1.heap.objs.size := p2'.lt
  refine call_zip_2 p1.isList p2'.isList fun h' hzz hTI hTO h1 h2 hsz hk => ?_
  have I2 : Inv X pins σ H1 { s1 with heap := h' } := I1.kept (t' := s1.toks) hk
  refine Calls.spliced_nil ?_
  have D := PySem.W.ktu_apart s1.heap.objs.size a b la lb
  have hfr : ∀ c, s1.heap.objs.size ≤ c → H1 c = none := fun c hc => I1.hok.fresh hc
  generalize hN : s1.heap.objs.size = N at *
  have hf : ∀ c ∈ [N + 4, N + 2, N + 3, N, N + 1], FpOk X pins H1 c := fun c hcm => by
    have hle : s1.heap.objs.size ≤ c := by
      rw [hN]
      simp only [List.mem_cons, List.not_mem_nil, or_false] at hcm
      omega
    exact I1.fpOk hle (I1.hok.fresh hle)
  -- the new list
  refine callType_codes (s := { s1 with heap := h' }) (Q₁ := fun obj s₂ => obj = .ref h'.objs.size ∧ s₂ = { s1 with heap := h'.push { cls := .type "list", data := .seq #[] } }) PySem.F.called_list (PySem.F.typeCall_list_1 _) PySem.F.entry_list_init
    (code_list_new _ ⟨rfl, rfl⟩) fun obj s₂ hobj => ?_
  obtain ⟨rfl, rfl⟩ := hobj
  have hS : (h'.push { cls := .type "list", data := .seq #[] }).get? h'.objs.size = some { cls := .type "list", data := .seq #[] } := Heap.get?_push_size _ rfl
  have I3 : Inv X pins σ (upd H1 h'.objs.size (.lst [])) { s1 with heap := h'.push { cls := .type "list", data := .seq #[] } } := I2.lnew (its := []) (t' := s1.toks) .nil (Nat.zero_le _)
  have hH1 : H1 h'.objs.size = none := I2.hok.fresh (Nat.le_refl _)
  generalize hM : h'.objs.size = M at *
  have hMN : M = N + 5 := hsz
  have hz3 : IsZip (h'.push { cls := .type "list", data := .seq #[] }) (N + 4) (N + 2) (N + 3) .none := Heap.get?_push_of_some _ hzz
  refine ⟨⟨_, hS, rfl⟩, PySem.F.args_list_init_2 _ _, ?_⟩
  show wpAny _ _ (do let old ← Builtin.List.listItems (.ref M); Builtin.List.listUpdate (.ref M) (fun _ => #[]); letGo old.toList.reverse; Builtin.List.listExtendWith (.ref M) (.ref (N + 4)) .none) _ _ _
  refine wpAny_bind ?_
  unfold Builtin.List.listItems
  refine wpAny_bind (wpAny_seqItems hS rfl (wpAny_pure ?_))
  show wpAny _ _ (updateSeq M (fun _ => #[]) >>= fun _ => letGo (#[] : Array Value).toList.reverse >>= fun _ => Builtin.List.listExtendWith (.ref M) (.ref (N + 4)) .none) _ _ _
  refine wpAny_bind (wpAny_updateSeq hS rfl ?_)
  have hS₂ := Heap.get?_update_self (Obj.mapSeq (fun _ => (#[] : Array Value))) hS rfl
  have I4 := I3.lset (its := []) (its' := []) (ys := []) (t' := s1.toks) upd_same hS (f := fun _ => #[]) rfl .nil (Nat.zero_le _)
  refine wpAny_bind (wpAny_letGo ?_)
  have oth : ∀ c o, c ≠ M → (h'.push { cls := .type "list", data := .seq #[] }).get? c = some o → ((h'.push { cls := .type "list", data := .seq #[] }).update M (Obj.mapSeq (fun _ => (#[] : Array Value)))).get? c = some o := fun c o hb e => (Heap.get?_update_other _ _ (Ne.symm hb)).trans e
  have nez : N + 4 ≠ M := by omega
  unfold Builtin.List.listExtendWith
  have hz4 := oth _ _ nez hz3
  refine wpAny_bind (wpAny_typeOf (T := "zip") ⟨_, hz4, rfl⟩ ?_)
  have h1' : Builtin.List.listSameRef (.ref M) (.ref (N + 4)) = false := by simp [Builtin.List.listSameRef, Ne.symm nez]
  have h2' : (Value.type "zip" == Value.type "list") = false := by decide
  have h3' : (Value.type "zip" == Value.type "tuple") = false := by decide
  simp only [h1', h2', h3', Bool.or_false, Bool.false_eq_true, if_false]
  refine wpAny_bind (wpAny_pyIter_zip hz4 ?_)
  refine wpAny_bind (wpAny_holding ?_)
  unfold Builtin.List.listLengthHint
  refine wpAny_bind (wpAny_specialOf (T := "zip") ⟨_, hz4, rfl⟩ zl_no_len ?_)
  refine wpAny_bind (wpAny_specialOf (T := "zip") ⟨_, hz4, rfl⟩ zl_no_hint ?_)
  refine wpAny_pure ?_
  show wpAny _ _ (rule "list.extend.makes-room" >>= fun _ => Builtin.List.listTouch (.ref M) >>= fun _ => again (.builtin "list.extend.loop" ⟨[.ref M, .ref (N + 4), .none], []⟩)) _ _ _
  refine wpAny_bind (wpAny_rule ?_)
  refine wpAny_bind ?_
  show wpAny _ _ (updateSeq M (·.push .none) >>= fun _ => updateSeq M (·.pop)) _ _ _
  refine wpAny_bind (wpAny_updateSeq hS₂ rfl ?_)
  have hS₃ := Heap.get?_update_self (Obj.mapSeq (·.push Value.none)) hS₂ rfl
  have I5 := I4.lset (its := []) (its' := [Value.none]) (ys := [V.non]) (t' := s1.toks) upd_same hS₂ (f := (·.push .none)) rfl (.cons rfl .nil) (by show 1 ≤ sizeLine; decide)
  refine wpAny_updateSeq hS₃ rfl ?_
  have hS₄ := Heap.get?_update_self (Obj.mapSeq (·.pop)) hS₃ rfl
  have I6 := I5.lset (its := [Value.none]) (its' := []) (ys := []) (t' := s1.toks) upd_same hS₃ (f := (·.pop)) rfl .nil (Nat.zero_le _)
  have eH : upd (upd (upd (upd H1 M (.lst [])) M (.lst [])) M (.lst [.non])) M (.lst []) = upd H1 M (.lst []) := by
    funext c
    by_cases hcM : c = M
    · rw [hcM, upd_same, upd_same]
    · rw [upd_ne hcM, upd_ne hcM, upd_ne hcM, upd_ne hcM]
  rw [eH] at I6
  have oth2 : ∀ c o, c ≠ M → h'.get? c = some o → ((((h'.push { cls := .type "list", data := .seq #[] }).update M (Obj.mapSeq (fun _ => (#[] : Array Value)))).update M (Obj.mapSeq (·.push Value.none))).update M (Obj.mapSeq (·.pop))).get? c = some o := fun c o hb e =>
    (Heap.get?_update_other _ _ (Ne.symm hb)).trans ((Heap.get?_update_other _ _ (Ne.symm hb)).trans (oth c o hb (Heap.get?_push_of_some _ e)))
  have sq1 : ∀ {c l}, SqL X.K H1 c l → SqL X.K (upd H1 M (.lst [])) c l := fun e => (same_upd hH1).seq e
  have aM : a ≠ M := by rw [hMN]; exact Nat.ne_of_lt (Nat.lt_of_lt_of_le la (Nat.le_add_right _ _))
  have bM : b ≠ M := by rw [hMN]; exact Nat.ne_of_lt (Nat.lt_of_lt_of_le lb (Nat.le_add_right _ _))
  have ne4 : ∀ j : Nat, j < 5 → M ≠ N + j := fun j hj z => by
    have z : M = N + j := z
    omega
  refine wpAny_pure ⟨plainId_quiet PySem.F.plain_extend_loop _, ?_⟩
  refine zl_loop hc D (ne4 4 (by decide)) (ne4 2 (by decide)) (ne4 3 (by decide)) (ne4 0 (by decide)) (ne4 1 (by decide)) (Nat.le_trans hz (by decide)) hl (H0 := H1) (A := X.A.in1) (I1.ok.hd hc) (fun H' s' J out => ?_) xs.length 0 _ _ (Nat.sub_zero _) (Nat.zero_le _) I6 (fun c hcm => ?_) (sq1 hqx) (sq1 hqy)
    ⟨oth2 _ _ (Ne.symm (ne4 2 (by decide))) hTI, h1.at fun o e => oth2 _ o (Ne.symm (ne4 0 (by decide))) e, h2.at fun o e => oth2 _ o (Ne.symm (ne4 1 (by decide))) e, .inl ⟨oth2 _ _ (Ne.symm (ne4 4 (by decide))) hzz, _, _, oth2 _ _ (Ne.symm (ne4 3 (by decide))) hTO⟩, _, oth2 _ _ (Ne.symm (ne4 3 (by decide))) hTO⟩
    ⟨fun c o hcM e => by rw [upd_ne hcM]; exact e, [], upd_same, rfl, fun j t hj => by cases hj⟩ aM bM
  · obtain ⟨sm, ts, e1, e2, e3⟩ := out
    exact ⟨rfl, .ref M, H', J, rfl, q H' M ts (fun c o e => sm c o (ne_of_none e hH1) e) hH1 e1 e2 e3⟩
  · obtain ⟨f1, f2⟩ := hf c hcm
    refine ⟨?_, f2⟩
    have : c ≠ M := by
      intro z
      simp only [List.mem_cons, List.not_mem_nil, or_false] at hcm
      rcases hcm with h | h | h | h | h
      · exact ne4 4 (by decide) (z.symm.trans h)
      · exact ne4 2 (by decide) (z.symm.trans h)
      · exact ne4 3 (by decide) (z.symm.trans h)
      · exact ne4 0 (by decide) (z.symm.trans h)
      · exact ne4 1 (by decide) (z.symm.trans h)
    rw [upd_ne this]
    exact f1
end WB
namespace WB
open PySem PySem.Spec PyProof.Rows L2
def topS (i : Nat) : Stmt := PySem.Challenge.pw_warbleline_k34_whole_wires_learnt.main.body.getD i (.Pass ⟨0, 0, 0, 0⟩)
abbrev s_LineError : Stmt := topS 1
abbrev s_BadTaps : Stmt := topS 2
abbrev s_BadNoise : Stmt := topS 3
abbrev s_Missing : Stmt := topS 4
abbrev s_without_last_noughts : Stmt := topS 8
abbrev s_right_shares : Stmt := topS 9
abbrev s_left_behind : Stmt := topS 10
abbrev s_no_tones : Stmt := topS 11
abbrev s_with_latest : Stmt := topS 12
abbrev s_probe : Stmt := topS 17
abbrev s_shares_of : Stmt := topS 18
abbrev s_counts_of_probe : Stmt := topS 19
abbrev s_taps_of : Stmt := topS 20
abbrev s_echo_of : Stmt := topS 21
abbrev s_training_tones : Stmt := topS 22
abbrev s_trained : Stmt := topS 23
abbrev s_Wire : Stmt := topS 25
abbrev m_Wire___init__ : Stmt := inClass s_Wire 0
abbrev m_Wire___eq__ : Stmt := inClass s_Wire 1
abbrev m_Wire___repr__ : Stmt := inClass s_Wire 2
abbrev m_Wire_shares : Stmt := inClass s_Wire 3
abbrev m_Wire_beat : Stmt := inClass s_Wire 4
abbrev m_Wire_hush : Stmt := inClass s_Wire 5
abbrev m_Wire_twin : Stmt := inClass s_Wire 6
abbrev s__law_bag : Stmt := topS 27
abbrev s__law_pick : Stmt := topS 28
abbrev s__law_of : Stmt := topS 29
abbrev s__law_same : Stmt := topS 30
abbrev s__law_tried : Stmt := topS 31
abbrev s__law_far : Stmt := topS 32
abbrev s__law_shares : Stmt := topS 33
abbrev s__law_trimmed : Stmt := topS 34
abbrev s__law_wire_new : Stmt := topS 35
abbrev s__law_wire_made : Stmt := topS 36
abbrev s__law_tone : Stmt := topS 37
abbrev s__law_pairs : Stmt := topS 38
abbrev s_law : Stmt := topS 39
section
variable {P : Program} {w : World} {K : PySem.W.Frag} {mg : Str → Option Value} {base : Heap}
abbrev i_LineError : Stmt := inClass s_LineError 0
theorem sc_i_LineError : FnScope ["self", "word", "text"] ["self", "word", "text"] (defScope i_LineError) := ⟨rfl, rfl, rfl, by decide +kernel, rfl, by decide +kernel, by decide +kernel⟩
theorem ok_i_LineError {f : Addr} {fd : FuncData} {k : Nat} {dvs : List V} (F : FunD K "__init__" "LineError.__init__" (defArgs i_LineError) (defBody i_LineError) (defScope i_LineError) dvs [] f fd) (n_ValueError : mg "ValueError" = none) (vV : PySem.W.findCls K (.type "ValueError") (.type "type") "__init__" = some (.val (.builtin "ValueError.__init__"))) :
    FnOk P w K mg base CX0 (k + 1) f fd ["self", "word", "text"] (spLE K) := by
  have sc := sc_i_LineError
  refine F.ok sc (fun vs H Q E h => ?_) (fun cdv A outer s H vs Q E hr h => ?_)
  · obtain ⟨a, C, w, t, rfl, _⟩ := h
    rfl
  · obtain ⟨a, C, w, t, rfl, hC, hw, ha, q⟩ := h
    refine ⟨_, PSs.nox (pss_cons (ps_expr (pe_veinit (by rfl) n_ValueError vV (pa_cons (pv 0) (pa_cons (pv 2) pa_nil)))) (pss_one (ps_ost (pv 0) (pv 1)))), ?_⟩
    refine ⟨_, rfl, _, rfl, a, C, [t], rfl, by show 1 ≤ 1000; decide, hC, ha, ?_⟩
    exact ⟨_, rfl, _, rfl, a, C, rfl, hC, hw, .inl ⟨ha, fun d nd da => q d nd da⟩⟩
abbrev i_BadTaps : Stmt := inClass s_BadTaps 0
theorem sc_i_BadTaps : FnScope ["self"] ["self"] (defScope i_BadTaps) := ⟨rfl, rfl, rfl, by decide +kernel, rfl, by decide +kernel, by decide +kernel⟩
theorem ok_i_BadTaps {f fL C CL : Addr} {fd fdL : FuncData} {k : Nat} (F : Fun K "__init__" "BadTaps.__init__" i_BadTaps f fd) (TL : ClsFn K mg "LineError" "__init__" CL fL) (FL : FnOk P w K mg base CX0 k fL fdL ["self", "word", "text"] (spLE K)) (bL : Binds K fdL ["self", "word", "text"] [])
    (hC : OexC K C) (hw : PySem.W.findIn K (.ref C) "word" = some none) : FnOk P w K mg base CX0 (k + 1) f fd ["self"] (spIni0 K C "BadTaps") := by
  have sc := sc_i_BadTaps
  refine F.ok sc (fun vs H Q E h => ?_) (fun cdv A outer s H vs Q E hr h => ?_)
  · obtain ⟨a, rfl, _⟩ := h
    rfl
  · obtain ⟨a, rfl, ha, q⟩ := h
    refine ⟨_, (pss_one (ps_expr (pe_clsfn TL FL hr bL pass0 (by rfl) (pa_cons (pv 0) (pa_cons pe_str (pa_cons pe_str pa_nil)))))), ?_⟩
    exact ⟨_, rfl, a, C, _, _, rfl, hC, hw, ha, fun d nd da => q d nd da⟩
abbrev i_BadNoise : Stmt := inClass s_BadNoise 0
theorem sc_i_BadNoise : FnScope ["self"] ["self"] (defScope i_BadNoise) := ⟨rfl, rfl, rfl, by decide +kernel, rfl, by decide +kernel, by decide +kernel⟩
theorem ok_i_BadNoise {f fL C CL : Addr} {fd fdL : FuncData} {k : Nat} (F : Fun K "__init__" "BadNoise.__init__" i_BadNoise f fd) (TL : ClsFn K mg "LineError" "__init__" CL fL) (FL : FnOk P w K mg base CX0 k fL fdL ["self", "word", "text"] (spLE K)) (bL : Binds K fdL ["self", "word", "text"] [])
    (hC : OexC K C) (hw : PySem.W.findIn K (.ref C) "word" = some none) : FnOk P w K mg base CX0 (k + 1) f fd ["self"] (spIni0 K C "BadNoise") := by
  have sc := sc_i_BadNoise
  refine F.ok sc (fun vs H Q E h => ?_) (fun cdv A outer s H vs Q E hr h => ?_)
  · obtain ⟨a, rfl, _⟩ := h
    rfl
  · obtain ⟨a, rfl, ha, q⟩ := h
    refine ⟨_, (pss_one (ps_expr (pe_clsfn TL FL hr bL pass0 (by rfl) (pa_cons (pv 0) (pa_cons pe_str (pa_cons pe_str pa_nil)))))), ?_⟩
    exact ⟨_, rfl, a, C, _, _, rfl, hC, hw, ha, fun d nd da => q d nd da⟩
/-! ### the ring -/
def fold (n : Int) : Int := (n + 128) % 256 - 128
def apartI (a b : Int) : Int := if fold (a - b) < 0 then - fold (a - b) else fold (a - b)
def spFolded : Sp := fun vs H Q _ => ∃ (n : Int), vs = [.int n] ∧ Q (.int (fold n)) H
def spApart : Sp := fun vs H Q _ => ∃ (a b : Int), vs = [.int a, .int b] ∧ Q (.int (apartI a b)) H
theorem fold_shift (n k : Int) : fold (n + 256 * k) = fold n := by unfold fold; omega
theorem fold_fold (n : Int) : fold (fold n) = fold n := by unfold fold; omega
theorem apart_comm (a b : Int) : apartI a b = apartI b a := by
  unfold apartI fold
  split <;> split <;> omega
theorem apart_fold (a b : Int) : apartI (fold a) b = apartI a b := by
  have : fold (fold a - b) = fold (a - b) := by unfold fold; omega
  unfold apartI
  rw [this]
theorem apart_law (a b : Int) : (if 256 - (if a - b < 0 then -(a - b) else a - b) % 256 < (if a - b < 0 then -(a - b) else a - b) % 256 then 256 - (if a - b < 0 then -(a - b) else a - b) % 256 else (if a - b < 0 then -(a - b) else a - b) % 256) = apartI a b := by
  unfold apartI fold
  generalize a - b = d
  split <;> split <;> split <;> omega
theorem apart_le (a b : Int) : 0 ≤ apartI a b ∧ apartI a b ≤ 128 := by
  unfold apartI fold
  split <;> omega
/-! ### shares: noughts at the end, what is left behind -/
def trimS : List Int → List Int
  | [] => []
  | x :: r => if trimS r = [] ∧ x = 0 then [] else x :: trimS r
theorem trimS_nil {l : List Int} : trimS l = [] ↔ ∀ x ∈ l, x = 0 := by
  induction l with
  | nil => exact ⟨fun _ x h => (by cases h), fun _ => rfl⟩
  | cons y r ih =>
    unfold trimS
    by_cases c : trimS r = [] ∧ y = 0
    · rw [if_pos c]
      refine ⟨fun _ x hx => ?_, fun _ => rfl⟩
      rcases List.mem_cons.mp hx with rfl | hx
      · exact c.2
      · exact ih.mp c.1 x hx
    · rw [if_neg c]
      refine ⟨fun h => (by cases h), fun h => absurd ⟨ih.mpr (fun x hx => h x (.tail _ hx)), h y (.head _)⟩ c⟩
theorem trimS_zero : ∀ l : List Int, trimS (l ++ [0]) = trimS l
  | [] => rfl
  | x :: r => by
    show (if trimS (r ++ [0]) = [] ∧ x = 0 then [] else x :: trimS (r ++ [0])) = _
    rw [trimS_zero r]
    rfl
theorem trimS_last {x : Int} (h : x ≠ 0) : ∀ l : List Int, trimS (l ++ [x]) = l ++ [x]
  | [] => by
    show (if ([] : List Int) = [] ∧ x = 0 then [] else x :: []) = [x]
    rw [if_neg (fun c => h c.2)]
  | y :: r => by
    show (if trimS (r ++ [x]) = [] ∧ y = 0 then [] else y :: trimS (r ++ [x])) = _
    rw [trimS_last h r, if_neg (fun c => by simp at c)]
    rfl
theorem trimS_sub : ∀ {l : List Int} {x : Int}, x ∈ trimS l → x ∈ l
  | [], x, h => by cases h
  | y :: r, x, h => by
    unfold trimS at h
    split at h
    · cases h
    · rcases List.mem_cons.mp h with rfl | h
      · exact .head _
      · exact .tail _ (trimS_sub h)
theorem trimS_len : ∀ l : List Int, (trimS l).length ≤ l.length
  | [] => Nat.le_refl _
  | y :: r => by
    unfold trimS
    have := trimS_len r
    split
    · exact Nat.zero_le _
    · show (trimS r).length + 1 ≤ r.length + 1
      omega
theorem trimS_idem : ∀ l : List Int, trimS (trimS l) = trimS l
  | [] => rfl
  | y :: r => by
    by_cases c : trimS r = [] ∧ y = 0
    · have e : trimS (y :: r) = [] := if_pos c
      rw [e]
      rfl
    · have e : trimS (y :: r) = y :: trimS r := if_neg c
      rw [e]
      show (if trimS (trimS r) = [] ∧ y = 0 then [] else y :: trimS (trimS r)) = _
      rw [trimS_idem r, if_neg c]
theorem trimS_all {G : Int → Prop} : ∀ {l : List Int}, (∀ x ∈ trimS l, G x) → G 0 → ∀ x ∈ l, G x
  | [], _, _, x, hx => absurd hx List.not_mem_nil
  | y :: r, h, h0, x, hx => by
    by_cases c : trimS r = [] ∧ y = 0
    · rcases List.mem_cons.mp hx with rfl | hx
      · rw [c.2]
        exact h0
      · rw [trimS_nil.mp c.1 x hx]
        exact h0
    · have e : trimS (y :: r) = y :: trimS r := if_neg c
      rw [e] at h
      rcases List.mem_cons.mp hx with rfl | hx
      · exact h _ (.head _)
      · exact trimS_all (fun z hz => h z (.tail _ hz)) h0 x hx
def small (x : Int) : Prop := -3 ≤ x ∧ x ≤ 3
/-- shares that are right -/
def okSh (l : List Int) : Prop := (trimS l).length ≤ 4 ∧ ∀ x ∈ trimS l, small x
theorem okSh_trim {l : List Int} (h : okSh l) : okSh (trimS l) := by
  unfold okSh
  rw [trimS_idem]
  exact h
/-- so many times each -/
def dotL (ws ns : List Int) : Int := (List.zipWith (· * ·) ws ns).sum
theorem dotL_cons (w n : Int) (ws ns : List Int) : dotL (w :: ws) (n :: ns) = w * n + dotL ws ns := rfl
theorem dotL_nil (ns : List Int) : dotL [] ns = 0 := rfl
theorem dotL_nil' : ∀ ws : List Int, dotL ws [] = 0
  | [] => rfl
  | _ :: _ => rfl
theorem dotL_zeros : ∀ (ws ns : List Int), (∀ x ∈ ws, x = 0) → dotL ws ns = 0
  | [], ns, _ => rfl
  | w :: ws, [], _ => rfl
  | w :: ws, n :: ns, h => by
    rw [dotL_cons, h w (.head _), dotL_zeros ws ns (fun x hx => h x (.tail _ hx))]
    omega
theorem dotL_trim : ∀ (ws ns : List Int), dotL (trimS ws) ns = dotL ws ns
  | [], ns => rfl
  | w :: ws, ns => by
    by_cases c : trimS ws = [] ∧ w = 0
    · have e : trimS (w :: ws) = [] := if_pos c
      rw [e, dotL_nil, dotL_zeros (w :: ws) ns]
      intro x hx
      rcases List.mem_cons.mp hx with rfl | hx
      · exact c.2
      · exact trimS_nil.mp c.1 x hx
    · have e : trimS (w :: ws) = w :: trimS ws := if_neg c
      rw [e]
      cases ns with
      | nil => rfl
      | cons n ns => rw [dotL_cons, dotL_cons, dotL_trim ws ns]
theorem dotL_take : ∀ (k : Nat) (ws ns : List Int), ws.length ≤ k → dotL ws (ns.take k) = dotL ws ns
  | _, [], ns, _ => rfl
  | 0, w :: ws, ns, h => absurd h (by simp)
  | k + 1, w :: ws, [], h => rfl
  | k + 1, w :: ws, n :: ns, h => by
    rw [List.take_succ_cons, dotL_cons, dotL_cons, dotL_take k ws ns (by simpa using h)]
abbrev z4 : List Int := [0, 0, 0, 0]
/-! ### bytes -/
def isY (z : Int) : Prop := 0 ≤ z ∧ z < 256
def Bytes (ns : List Int) : Prop := ∀ z ∈ ns, isY z
def bb (ns : List Int) : List Int := (ns.map (wr 8)).flatten
theorem bb_cons (n : Int) (r : List Int) : bb (n :: r) = wr 8 n ++ bb r := rfl
theorem bb_app (a c : List Int) : bb (a ++ c) = bb a ++ bb c := by
  unfold bb
  rw [List.map_append, List.flatten_append]
theorem bb_len : ∀ ns : List Int, (bb ns).length = 8 * ns.length
  | [] => rfl
  | n :: r => by
    rw [bb_cons, List.length_append, wr_len, bb_len r, List.length_cons]
    omega
theorem bb_bits : ∀ ns : List Int, Bits (bb ns)
  | [] => bits_nil
  | n :: r => by
    rw [bb_cons]
    exact bits_app (wr_bits 8 n) (bb_bits r)
/-! ### numbers in bits -/
def bn (bs : List Int) : Int := bs.foldl (fun n b => 2 * n + b) 0
theorem bn_more {bs : List Int} {i : Nat} {b : Int} (h : bs[i]? = some b) : bn (bs.take (i + 1)) = 2 * bn (bs.take i) + b := by
  unfold bn
  rw [take_more h, List.foldl_append]
  rfl
theorem bn_acc (n : Nat) : ∀ (i : Nat) (c : Int), (wr i (n : Int)).foldl (fun n b => 2 * n + b) c = c * 2 ^ i + ((n % 2 ^ i : Nat) : Int)
  | 0, c => by
    show c = c * 1 + ((n % 1 : Nat) : Int)
    rw [Nat.mod_one]
    omega
  | i + 1, c => by
    show (wr i (n : Int)).foldl _ (2 * c + ((n : Int) / 2 ^ i) % 2) = _
    rw [bn_acc n i]
    have e : ((n : Int) / 2 ^ i) % 2 = ((n / 2 ^ i % 2 : Nat) : Int) := by
      rw [Int.natCast_emod, Int.natCast_ediv, Int.natCast_pow]
      rfl
    rw [e, Nat.mod_pow_succ, Int.natCast_add, Int.natCast_mul, Int.natCast_pow, Int.pow_succ, Int.add_mul]
    have e2 : (2 * c) * 2 ^ i = c * (2 ^ i * 2) := by
      rw [Int.mul_comm 2 c, Int.mul_assoc, Int.mul_comm 2 (2 ^ i)]
    rw [e2]
    have e3 : ((n / 2 ^ i % 2 : Nat) : Int) * 2 ^ i = (2 : Int) ^ i * ((n / 2 ^ i % 2 : Nat) : Int) := Int.mul_comm _ _
    show _ + ((n / 2 ^ i % 2 : Nat) : Int) * 2 ^ i + ((n % 2 ^ i : Nat) : Int) = _ + (((n % 2 ^ i : Nat) : Int) + (2 : Int) ^ i * ((n / 2 ^ i % 2 : Nat) : Int))
    rw [e3]
    omega
theorem bn_wr {n : Int} {i : Nat} (h0 : 0 ≤ n) (h1 : n < 2 ^ i) : bn (wr i n) = n := by
  obtain ⟨m, rfl⟩ : ∃ m : Nat, n = (m : Int) := ⟨n.toNat, by omega⟩
  unfold bn
  rw [bn_acc, Nat.mod_eq_of_lt (by exact_mod_cast h1)]
  omega
theorem pow64 {k : Nat} (h : k ≤ 64) : (1 : Int) ≤ 2 ^ k ∧ (2 : Int) ^ k ≤ 18446744073709551616 := by
  have h1 : (2 : Nat) ^ k ≤ 18446744073709551616 := Nat.le_trans (Nat.pow_le_pow_right (by decide) h) (by decide)
  have h2 : 1 ≤ (2 : Nat) ^ k := Nat.one_le_two_pow
  have e : ((2 ^ k : Nat) : Int) = (2 : Int) ^ k := Int.natCast_pow 2 k
  rw [← e]
  generalize 2 ^ k = x at h1 h2 ⊢
  omega
theorem lt_of_div {n : Int} {k : Nat} (h : n / 2 ^ k = 0) : n < 2 ^ k := by
  have h1 := Int.mul_ediv_add_emod n (2 ^ k)
  rw [h, Int.mul_zero, Int.zero_add] at h1
  have := Int.emod_lt_of_pos n (b := 2 ^ k) (Int.pow_pos (by decide))
  omega
theorem cut_mid (xs : List V) (i j : Nat) (h : i ≤ j) : cutV xs (some (i : Int)) (some (j : Int)) = (xs.drop i).take (j - i) := by
  unfold cutV
  rw [HT.sIx_nat, HT.sIx_nat]
  by_cases h1 : i ≤ xs.length
  · rw [Nat.min_eq_left h1]
    by_cases h2 : j ≤ xs.length
    · rw [Nat.min_eq_left h2]
    · rw [Nat.min_eq_right (by omega), List.take_of_length_le (by rw [List.length_drop]; exact Nat.le_refl _), List.take_of_length_le (by rw [List.length_drop]; omega)]
  · rw [Nat.min_eq_right (show xs.length ≤ i by omega), Nat.min_eq_right (show xs.length ≤ j by omega), List.drop_of_length_le (Nat.le_refl _), List.drop_of_length_le (show xs.length ≤ i by omega), List.take_nil, List.take_nil]
/-! ### books: the mathematics -/
abbrev Wds := List (List Int)
def bkBegun (ws : Wds) : Wds := if ws.length < 44 then ws else []
def bkLearn (ws : Wds) (a u : List Int) : Wds := if a ≠ [] ∧ ws.length < 44 ∧ a ++ u.take 1 ∉ ws then ws ++ [a ++ u.take 1] else ws
/-- the number of the longest word with which r begins, among the first so many, and how long it is -/
def bkBest (r : List Int) (ws : Wds) : Nat → Int × Nat
  | 0 => (r.headD 0, 1)
  | i + 1 => match ws[i]? with
    | some u => if (bkBest r ws i).2 < u.length ∧ r.take u.length = u then (256 + (i : Int), u.length) else bkBest r ws i
    | none => bkBest r ws i
def bkCode (r : List Int) (ws : Wds) : Int := (bkBest r ws ws.length).1
def bkSize (r : List Int) (ws : Wds) : Nat := (bkBest r ws ws.length).2
structure BkIs (r : List Int) (ws : Wds) (i : Nat) (c : Int) (n : Nat) : Prop where
  lo : 1 ≤ n
  hi : n ≤ r.length
  way : (n = 1 ∧ c = r.headD 0) ∨ (1 < n ∧ ∃ j : Nat, j < i ∧ ws[j]? = some (r.take n) ∧ c = 256 + (j : Int) ∧ ∀ k, k < j → ws[k]? ≠ some (r.take n))
  top : ∀ j u, j < i → ws[j]? = some u → r.take u.length = u → u.length ≤ n
theorem bkBest_is {r : List Int} (hr : r ≠ []) (ws : Wds) : ∀ i : Nat, BkIs r ws i (bkBest r ws i).1 (bkBest r ws i).2
  | 0 => ⟨Nat.le_refl _, (by show 1 ≤ r.length; exact List.length_pos_iff.mpr hr), .inl ⟨rfl, rfl⟩, fun j u h => absurd h (Nat.not_lt_zero _)⟩
  | i + 1 => by
    obtain ⟨lo, hi, way, top⟩ := bkBest_is hr ws i
    have more : ∀ {c : Int} {n : Nat}, ((n = 1 ∧ c = r.headD 0) ∨ (1 < n ∧ ∃ j : Nat, j < i ∧ ws[j]? = some (r.take n) ∧ c = 256 + (j : Int) ∧ ∀ k, k < j → ws[k]? ≠ some (r.take n))) → (n = 1 ∧ c = r.headD 0) ∨ (1 < n ∧ ∃ j : Nat, j < i + 1 ∧ ws[j]? = some (r.take n) ∧ c = 256 + (j : Int) ∧ ∀ k, k < j → ws[k]? ≠ some (r.take n)) := by
      rintro c n (h | ⟨h, j, hj, h2⟩)
      · exact .inl h
      · exact .inr ⟨h, j, by omega, h2⟩
    show BkIs r ws (i + 1) (match ws[i]? with | some u => if (bkBest r ws i).2 < u.length ∧ r.take u.length = u then (256 + (i : Int), u.length) else bkBest r ws i | none => bkBest r ws i).1 (match ws[i]? with | some u => if (bkBest r ws i).2 < u.length ∧ r.take u.length = u then (256 + (i : Int), u.length) else bkBest r ws i | none => bkBest r ws i).2
    cases e : ws[i]? with
    | none =>
      refine ⟨lo, hi, more way, fun j u hj hu ht => ?_⟩
      by_cases z : j = i
      · rw [z, e] at hu
        cases hu
      · exact top j u (by omega) hu ht
    | some u =>
      by_cases c : (bkBest r ws i).2 < u.length ∧ r.take u.length = u
      · simp only [if_pos c]
        have hul : u.length ≤ r.length := by
          have := congrArg List.length c.2
          rw [List.length_take] at this
          omega
        refine ⟨by show 1 ≤ u.length; omega, hul, .inr ⟨by show 1 < u.length; omega, i, by omega, ?_, rfl, fun k hk hz => ?_⟩, fun j v hj hv ht => ?_⟩
        · rw [e]
          show some u = some (r.take u.length)
          rw [c.2]
        · have hz : ws[k]? = some (r.take u.length) := hz
          rw [c.2] at hz
          have := top k u hk hz c.2
          omega
        · show v.length ≤ u.length
          by_cases z : j = i
          · rw [z, e] at hv
            cases hv
            exact Nat.le_refl _
          · have := top j v (by omega) hv ht
            omega
      · simp only [if_neg c]
        refine ⟨lo, hi, more way, fun j v hj hv ht => ?_⟩
        by_cases z : j = i
        · rw [z, e] at hv
          cases hv
          exact Nat.le_of_not_lt (fun h => c ⟨h, ht⟩)
        · exact top j v (by omega) hv ht
theorem bk_is {r : List Int} (hr : r ≠ []) (ws : Wds) : BkIs r ws ws.length (bkCode r ws) (bkSize r ws) := bkBest_is hr ws ws.length
theorem bkSize_pos (r : List Int) (ws : Wds) : 1 ≤ bkSize r ws := by
  have : ∀ i, 1 ≤ (bkBest r ws i).2 := by
    intro i
    induction i with
    | zero => exact Nat.le_refl _
    | succ i ih =>
      show 1 ≤ (match ws[i]? with | some u => if (bkBest r ws i).2 < u.length ∧ r.take u.length = u then (256 + (i : Int), u.length) else bkBest r ws i | none => bkBest r ws i).2
      cases ws[i]? with
      | none => exact ih
      | some u =>
        show 1 ≤ (if (bkBest r ws i).2 < u.length ∧ r.take u.length = u then (256 + (i : Int), u.length) else bkBest r ws i).2
        split
        · rename_i c
          show 1 ≤ u.length
          omega
        · exact ih
  exact this _
theorem drop_lt {r : List Int} {n : Nat} (hr : r ≠ []) (hn : 1 ≤ n) : (r.drop n).length < r.length := by
  have := List.length_pos_iff.mpr hr
  rw [List.length_drop]
  omega
/-- the numbers of a row, and the words behind -/
def bkGo (ws : Wds) (a r : List Int) : List Int × Wds :=
  if h : r = [] then ([], ws)
  else (bkCode r ws :: (bkGo (bkLearn ws a (r.take (bkSize r ws))) (r.take (bkSize r ws)) (r.drop (bkSize r ws))).1, (bkGo (bkLearn ws a (r.take (bkSize r ws))) (r.take (bkSize r ws)) (r.drop (bkSize r ws))).2)
termination_by r.length
decreasing_by all_goals exact drop_lt h (bkSize_pos r ws)
theorem bkGo_nil (ws : Wds) (a : List Int) : bkGo ws a [] = ([], ws) := by
  rw [bkGo]
  rfl
theorem bkGo_cons {ws : Wds} {a r : List Int} (h : r ≠ []) : bkGo ws a r = (bkCode r ws :: (bkGo (bkLearn ws a (r.take (bkSize r ws))) (r.take (bkSize r ws)) (r.drop (bkSize r ws))).1, (bkGo (bkLearn ws a (r.take (bkSize r ws))) (r.take (bkSize r ws)) (r.drop (bkSize r ws))).2) := by
  rw [bkGo, dif_neg h]
def bkShort (ws : Wds) (row : List Int) : List Int × Wds := bkGo (bkBegun ws) [] row
def bkWord (ws : Wds) (c : Int) : List Int := if c < 256 then [c] else ws.getD (c - 256).toNat []
/-- the row of numbers, or where it stops -/
def bkLen (ws : Wds) (a f : List Int) (i : Nat) : List Int → Sum Nat (List Int × Wds)
  | [] => .inr (f, ws)
  | c :: cs => if c < 0 ∨ 256 + (ws.length : Int) ≤ c then .inl i
    else if 60 < f.length + (bkWord ws c).length then .inl i else bkLen (bkLearn ws a (bkWord ws c)) (bkWord ws c) (f ++ bkWord ws c) (i + 1) cs
def bkLong (ws : Wds) (cs : List Int) : Sum Nat (List Int × Wds) := bkLen (bkBegun ws) [] [] 0 cs
theorem bk_code_word {ws : Wds} {r : List Int} (h : r ≠ []) (hb : ∀ z ∈ r, 0 ≤ z ∧ z < 256) : (0 ≤ bkCode r ws ∧ bkCode r ws < 256 + (ws.length : Int)) ∧ bkWord ws (bkCode r ws) = r.take (bkSize r ws) := by
  obtain ⟨lo, hi, way, top⟩ := bk_is h ws
  rcases way with ⟨e1, e2⟩ | ⟨h1, j, hj, hw, e2, _⟩
  · have hz := hb (r.headD 0) (by cases r with | nil => exact absurd rfl h | cons x t => exact .head _)
    rw [e2, e1]
    refine ⟨⟨hz.1, by omega⟩, ?_⟩
    unfold bkWord
    rw [if_pos hz.2]
    cases r with
    | nil => exact absurd rfl h
    | cons x t => rfl
  · rw [e2]
    refine ⟨⟨by omega, by omega⟩, ?_⟩
    unfold bkWord
    rw [if_neg (by omega), show (256 + (j : Int) - 256).toNat = j by omega, List.getD_eq_getElem?_getD, hw]
    rfl
theorem bkLen_go : ∀ (n : Nat) (r : List Int) (ws : Wds) (a f : List Int) (i : Nat), r.length ≤ n → (∀ z ∈ r, 0 ≤ z ∧ z < 256) → f.length + r.length ≤ 60 → bkLen ws a f i (bkGo ws a r).1 = .inr (f ++ r, (bkGo ws a r).2)
  | n, [], ws, a, f, i, _, _, _ => by
    rw [bkGo_nil]
    show Sum.inr (f, ws) = _
    rw [List.append_nil]
  | 0, x :: r, _, _, _, _, h, _, _ => absurd h (by simp)
  | n + 1, x :: r, ws, a, f, i, hl, hb, h60 => by
    have hne : x :: r ≠ [] := by simp
    obtain ⟨hc, hw⟩ := bk_code_word (ws := ws) hne hb
    have hs := bkSize_pos (x :: r) ws
    have hi := (bk_is hne ws).hi
    rw [bkGo_cons hne]
    show (if bkCode (x :: r) ws < 0 ∨ 256 + (ws.length : Int) ≤ bkCode (x :: r) ws then _ else _) = _
    rw [if_neg (by omega), hw]
    rw [if_neg (by rw [List.length_take]; omega)]
    rw [bkLen_go n _ _ _ _ _ (by have := drop_lt hne hs; omega) (fun z hz => hb z (List.mem_of_mem_drop hz)) (by rw [List.length_append, List.length_take, List.length_drop]; omega)]
    rw [List.append_assoc, List.take_append_drop]
theorem bkLong_short {ws : Wds} {row : List Int} (hb : ∀ z ∈ row, 0 ≤ z ∧ z < 256) (hl : row.length ≤ 60) : bkLong ws (bkShort ws row).1 = .inr (row, (bkShort ws row).2) := by
  unfold bkLong bkShort
  have := bkLen_go row.length row (bkBegun ws) [] [] 0 (Nat.le_refl _) hb (by simpa using hl)
  rw [List.nil_append] at this
  exact this
theorem bkGo_len : ∀ (n : Nat) (r : List Int) (ws : Wds) (a : List Int), r.length ≤ n → (bkGo ws a r).1.length ≤ r.length
  | n, [], ws, a, _ => by rw [bkGo_nil]; exact Nat.le_refl _
  | 0, x :: r, _, _, h => absurd h (by simp)
  | n + 1, x :: r, ws, a, hl => by
    have hne : x :: r ≠ [] := by simp
    have hd := drop_lt hne (bkSize_pos (x :: r) ws)
    rw [bkGo_cons hne]
    have := bkGo_len n ((x :: r).drop (bkSize (x :: r) ws)) (bkLearn ws a ((x :: r).take (bkSize (x :: r) ws))) ((x :: r).take (bkSize (x :: r) ws)) (by omega)
    show _ + 1 ≤ _
    omega
theorem bkLearn_room {ws : Wds} {a u : List Int} (h : ws.length ≤ 44) : (bkLearn ws a u).length ≤ 44 := by
  unfold bkLearn
  split
  · rename_i c
    rw [List.length_append]
    show ws.length + 1 ≤ 44
    omega
  · exact h
theorem bkBegun_room (ws : Wds) : (bkBegun ws).length ≤ 44 := by
  unfold bkBegun
  split
  · omega
  · exact Nat.zero_le _
theorem bkGo_room : ∀ (n : Nat) (r : List Int) (ws : Wds) (a : List Int), r.length ≤ n → ws.length ≤ 44 → (bkGo ws a r).2.length ≤ 44
  | n, [], ws, a, _, h => by rw [bkGo_nil]; exact h
  | 0, x :: r, _, _, h, _ => absurd h (by simp)
  | n + 1, x :: r, ws, a, hl, h => by
    have hne : x :: r ≠ [] := by simp
    have hd := drop_lt hne (bkSize_pos (x :: r) ws)
    rw [bkGo_cons hne]
    exact bkGo_room n _ _ _ (by omega) (bkLearn_room h)
theorem bkGo_codes : ∀ (n : Nat) (r : List Int) (ws : Wds) (a : List Int), r.length ≤ n → ws.length ≤ 44 → (∀ z ∈ r, 0 ≤ z ∧ z < 256) → ∀ c ∈ (bkGo ws a r).1, 0 ≤ c ∧ c < 300
  | n, [], ws, a, _, _, _ => by rw [bkGo_nil]; exact fun c hc => absurd hc List.not_mem_nil
  | 0, x :: r, _, _, h, _, _ => absurd h (by simp)
  | n + 1, x :: r, ws, a, hl, h, hb => by
    have hne : x :: r ≠ [] := by simp
    have hd := drop_lt hne (bkSize_pos (x :: r) ws)
    rw [bkGo_cons hne]
    intro c hc
    rcases List.mem_cons.mp hc with rfl | hc
    · have := (bk_code_word (ws := ws) hne hb).1
      omega
    · exact bkGo_codes n _ _ _ (by omega) (bkLearn_room h) (fun z hz => hb z (List.mem_of_mem_drop hz)) c hc
theorem bkShort_room (ws : Wds) (row : List Int) : (bkShort ws row).2.length ≤ 44 := bkGo_room row.length row _ _ (Nat.le_refl _) (bkBegun_room ws)
theorem bkShort_len (ws : Wds) (row : List Int) : (bkShort ws row).1.length ≤ row.length := bkGo_len row.length row _ _ (Nat.le_refl _)
theorem bkShort_codes {ws : Wds} {row : List Int} (hb : ∀ z ∈ row, 0 ≤ z ∧ z < 256) : ∀ c ∈ (bkShort ws row).1, 0 ≤ c ∧ c < 300 := bkGo_codes row.length row _ _ (Nat.le_refl _) (bkBegun_room ws) hb
/-- words are of two bytes and more, at most sixty -/
def Wd (u : List Int) : Prop := 1 ≤ u.length ∧ u.length ≤ 1000
/-! ### a row of unlike bytes fills the book -/
theorem un_odd : ∀ n, n < 60 → 0 < n → ∀ d, d < 128 → (n * (1 + 2 * d)) % 256 ≠ 0 := by decide +kernel
def fullRow (x d : Nat) : List Int := (List.range 60).map fun k : Nat => ((x : Int) + (k : Int) * (1 + 2 * (d : Int))) % 256
theorem fullRow_len (x d : Nat) : (fullRow x d).length = 60 := by
  unfold fullRow
  rw [List.length_map, List.length_range]
theorem fullRow_bytes (x d : Nat) : ∀ z ∈ fullRow x d, 0 ≤ z ∧ z < 256 := by
  intro z hz
  unfold fullRow at hz
  obtain ⟨k, _, rfl⟩ := List.mem_map.mp hz
  omega
theorem fullRow_nodup {x d : Nat} (hd : d < 128) : (fullRow x d).Nodup := by
  unfold fullRow
  rw [List.nodup_iff_pairwise_ne, List.pairwise_map]
  refine List.Pairwise.imp_of_mem ?_ (List.nodup_iff_pairwise_ne.mp List.nodup_range)
  have key : ∀ i j : Nat, i < j → j < 60 → ((x : Int) + (i : Int) * (1 + 2 * (d : Int))) % 256 ≠ ((x : Int) + (j : Int) * (1 + 2 * (d : Int))) % 256 := by
    intro i j hij hj e
    have h := un_odd (j - i) (by omega) (by omega) d hd
    refine h ?_
    obtain ⟨m, rfl⟩ : ∃ m, j = i + m := ⟨j - i, by omega⟩
    rw [Nat.add_sub_cancel_left]
    have e2 : (((i + m : Nat) : Int)) * (1 + 2 * (d : Int)) = (i : Int) * (1 + 2 * (d : Int)) + (m : Int) * (1 + 2 * (d : Int)) := by
      rw [Int.natCast_add, Int.add_mul]
    rw [e2] at e
    have e3 : (((m * (1 + 2 * d) : Nat)) : Int) = (m : Int) * (1 + 2 * (d : Int)) := by
      rw [Int.natCast_mul, Int.natCast_add, Int.natCast_mul]
      rfl
    rw [← e3] at e
    generalize (i : Int) * (1 + 2 * (d : Int)) = y at e
    generalize m * (1 + 2 * d) = w at e ⊢
    omega
  intro i j hi hj hne
  rw [List.mem_range] at hi hj
  rcases Nat.lt_trichotomy i j with h | h | h
  · exact key i j h hj
  · exact absurd h hne
  · exact fun e => key j i h hi e.symm
/-- all of the words' bytes have been before -/
def Past (ws : Wds) (r : List Int) : Prop := ∀ u ∈ ws, u ≠ [] ∧ ∀ z ∈ u, z ∉ r
theorem past_code {ws : Wds} {x : Int} {t : List Int} (h : Past ws (x :: t)) : bkCode (x :: t) ws = x ∧ bkSize (x :: t) ws = 1 := by
  obtain ⟨lo, hi, way, _⟩ := bk_is (r := x :: t) (by simp) ws
  rcases way with ⟨e1, e2⟩ | ⟨h1, j, _, hw, _, _⟩
  · exact ⟨e2, e1⟩
  · exfalso
    have hm := h _ (List.mem_of_getElem? hw)
    refine hm.2 x ?_ (.head _)
    obtain ⟨n, hn⟩ : ∃ n, bkSize (x :: t) ws = n + 1 := ⟨bkSize (x :: t) ws - 1, by omega⟩
    rw [hn, List.take_succ_cons]
    exact .head _
theorem go_nodup : ∀ (r : List Int) (ws : Wds) (y : Int), r.Nodup → Past ws r → y ∉ r → ws.length ≤ 44 → (bkGo ws [y] r).1 = r ∧ (bkGo ws [y] r).2.length = min 44 (ws.length + r.length)
  | [], ws, y, _, _, _, hl => by
    rw [bkGo_nil]
    refine ⟨rfl, ?_⟩
    show ws.length = min 44 (ws.length + 0)
    omega
  | x :: t, ws, y, hn, hp, hy, hl => by
    obtain ⟨ec, es⟩ := past_code hp
    have hn' := List.nodup_cons.mp hn
    have hnew : [y] ++ [x].take 1 ∉ ws := fun hm => (hp _ hm).2 x (by simp) (.head _)
    have hpast : Past (bkLearn ws [y] [x]) t := by
      unfold bkLearn
      split
      · intro u hu
        rcases List.mem_append.mp hu with h | h
        · exact ⟨(hp u h).1, fun z hz hzt => (hp u h).2 z hz (.tail _ hzt)⟩
        · rw [List.mem_singleton.mp h]
          refine ⟨by simp, fun z hz hzt => ?_⟩
          have hz : z ∈ [y, x] := hz
          rcases List.mem_cons.mp hz with rfl | hz
          · exact hy (.tail _ hzt)
          · rw [List.mem_singleton.mp hz] at hzt
            exact hn'.1 hzt
      · exact fun u hu => ⟨(hp u hu).1, fun z hz hzt => (hp u hu).2 z hz (.tail _ hzt)⟩
    have hlen : (bkLearn ws [y] [x]).length = min 44 (ws.length + 1) := by
      unfold bkLearn
      by_cases z : ws.length < 44
      · rw [if_pos ⟨by simp, z, hnew⟩, List.length_append]
        show ws.length + 1 = _
        omega
      · rw [if_neg (fun c => z c.2.1)]
        omega
    obtain ⟨i1, i2⟩ := go_nodup t (bkLearn ws [y] [x]) x hn'.2 hpast hn'.1 (by omega)
    rw [bkGo_cons (by simp), ec, es]
    refine ⟨?_, ?_⟩
    · show x :: (bkGo (bkLearn ws [y] [x]) [x] t).1 = x :: t
      rw [i1]
    · show (bkGo (bkLearn ws [y] [x]) [x] t).2.length = _
      rw [i2, hlen, List.length_cons]
      omega
theorem full_short {x d : Nat} (hd : d < 128) : (bkShort [] (fullRow x d)).1 = fullRow x d ∧ (bkShort [] (fullRow x d)).2.length = 44 := by
  have hn := fullRow_nodup (x := x) hd
  have hl := fullRow_len x d
  unfold bkShort
  have hb : bkBegun [] = [] := rfl
  rw [hb]
  cases h : fullRow x d with
  | nil => rw [h] at hl; cases hl
  | cons y t =>
    rw [h] at hn hl
    have hn' := List.nodup_cons.mp hn
    obtain ⟨ec, es⟩ := past_code (ws := []) (x := y) (t := t) (fun u hu => absurd hu List.not_mem_nil)
    obtain ⟨i1, i2⟩ := go_nodup t [] y hn'.2 (fun u hu => absurd hu List.not_mem_nil) hn'.1 (Nat.zero_le _)
    have e0 : bkLearn [] [] [y] = [] := by
      unfold bkLearn
      rw [if_neg (fun c => c.1 rfl)]
    rw [bkGo_cons (by simp), ec, es]
    have e1 : bkLearn [] [] ((y :: t).take 1) = [] := e0
    rw [e1]
    refine ⟨?_, ?_⟩
    · show y :: (bkGo [] [y] t).1 = y :: t
      rw [i1]
    · show (bkGo [] [y] t).2.length = 44
      rw [i2]
      have : t.length + 1 = 60 := hl
      show min 44 (0 + t.length) = 44
      omega
/-! ### books as objects -/
abbrev WP := Addr × List Int
abbrev rfW (p : WP) : V := .ref p.1
abbrev twW (p : WP) : Addr × List V := (p.1, p.2.map V.int)
def wsOf (P : List WP) : Wds := P.map (·.2)
abbrev refsW (P : List WP) : List V := P.map rfW
abbrev knW (P : List WP) : List (Addr × List V) := P.map twW
theorem wsOf_len (P : List WP) : (wsOf P).length = P.length := List.length_map _
theorem wsOf_app (P Q : List WP) : wsOf (P ++ Q) = wsOf P ++ wsOf Q := List.map_append
theorem wsOf_at {P : List WP} {i : Nat} {p : WP} (h : P[i]? = some p) : (wsOf P)[i]? = some p.2 := by
  unfold wsOf
  rw [List.getElem?_map, h]
  rfl
theorem refsW_at {P : List WP} {i : Nat} {x : V} (h : (refsW P)[i]? = some x) : ∃ p, P[i]? = some p ∧ x = .ref p.1 := by
  rw [List.getElem?_map] at h
  cases e : P[i]? with
  | none => rw [e] at h; cases h
  | some p => rw [e] at h; exact ⟨p, rfl, (Option.some.inj h).symm⟩
theorem tf_at {K : PySem.W.Frag} {P : List WP} {H : Hp} {i : Nat} {p : WP} (t : TF K (knW P) H) (h : P[i]? = some p) : SqT K H p.1 (p.2.map V.int) := t (twW p) (List.mem_map.mpr ⟨p, List.mem_of_getElem? h, rfl⟩)
theorem tf_nil {K : PySem.W.Frag} {H : Hp} : TF K (knW []) H := fun p hp => absurd hp List.not_mem_nil
theorem tf_snoc {K : PySem.W.Frag} {P : List WP} {H : Hp} {t : Addr} {u : List Int} (h : TF K (knW P) H) (ht : SqT K H t (u.map V.int)) : TF K (knW (P ++ [(t, u)])) H := fun p hp => by
  have hp : p ∈ (P ++ [(t, u)]).map twW := hp
  rw [List.map_append] at hp
  rcases List.mem_append.mp hp with q | q
  · exact h p q
  · rw [List.mem_singleton.mp q]
    exact ht
structure BkC (K : PySem.W.Frag) (C : Addr) : Prop where
  cls : Cls K C
  nw : NoAttr K C "words"
abbrev bkF (l : Addr) : List (Str × V) := [(("words" : Str), .ref l)]
structure Bk (C r l : Addr) (P : List WP) (H : Hp) : Prop where
  ins : ∃ dx, H r = some (.ins C dx (bkF l))
  mem : H l = some (.lst (refsW P))
def tBk (C r l : Addr) (P : List WP) : Th := ⟨[r, l], Bk C r l P, fun H H' k h => by
  obtain ⟨⟨dx, h1⟩, h2⟩ := h
  exact ⟨⟨dx, k _ (.head _) _ h1⟩, k _ (.tail _ (.head _)) _ h2⟩, fun H h a ha => by
  obtain ⟨⟨dx, h1⟩, h2⟩ := h
  rcases List.mem_cons.mp ha with rfl | ha
  · exact ⟨_, h1, trivial⟩
  · rw [List.mem_singleton.mp ha]
    exact ⟨_, h2, trivial⟩⟩
instance (C r l : Addr) (P : List WP) : NT (tBk C r l P) := ⟨fun H h a ha o e => by
  obtain ⟨⟨dx, h1⟩, h2⟩ := h
  rcases List.mem_cons.mp ha with rfl | ha
  · rw [h1] at e
    cases e
    trivial
  · rw [List.mem_singleton.mp ha, h2] at e
    cases e
    trivial⟩
theorem Bk.ne {C r l : Addr} {P : List WP} {H : Hp} (h : Bk C r l P H) : l ≠ r := fun z => by
  obtain ⟨⟨dx, h1⟩, h2⟩ := h
  rw [z, h1] at h2
  cases h2
/-- all words are short -/
def W61 (ws : Wds) : Prop := ws.length ≤ 44 ∧ ∀ u ∈ ws, u.length ≤ 61
theorem w61_begun {ws : Wds} (h : W61 ws) : W61 (bkBegun ws) := by
  unfold bkBegun
  split
  · exact h
  · exact ⟨Nat.zero_le _, fun u hu => absurd hu List.not_mem_nil⟩
theorem w61_learn {ws : Wds} {a u : List Int} (h : W61 ws) (ha : a.length ≤ 60) : W61 (bkLearn ws a u) := by
  refine ⟨bkLearn_room h.1, ?_⟩
  unfold bkLearn
  split
  · intro v hv
    rcases List.mem_append.mp hv with z | z
    · exact h.2 v z
    · rw [List.mem_singleton.mp z, List.length_append, List.length_take]
      omega
  · exact h.2
theorem w61_nil : W61 [] := ⟨Nat.zero_le _, fun u hu => absurd hu List.not_mem_nil⟩
theorem w61_go : ∀ (n : Nat) (r : List Int) (ws : Wds) (a : List Int), r.length ≤ n → r.length ≤ 60 → a.length ≤ 60 → W61 ws → W61 (bkGo ws a r).2
  | n, [], ws, a, _, _, _, h => by rw [bkGo_nil]; exact h
  | 0, x :: r, _, _, h, _, _, _ => absurd h (by simp)
  | n + 1, x :: r, ws, a, hl, h60, ha, h => by
    have hne : x :: r ≠ [] := by simp
    have hd := drop_lt hne (bkSize_pos (x :: r) ws)
    rw [bkGo_cons hne]
    exact w61_go n _ _ _ (by omega) (by omega) (by rw [List.length_take]; omega) (w61_learn h ha)
theorem w61_short {ws : Wds} {row : List Int} (h : W61 ws) (hl : row.length ≤ 60) : W61 (bkShort ws row).2 := w61_go row.length row _ _ (Nat.le_refl _) hl (Nat.zero_le _) (w61_begun h)
theorem w61_len : ∀ (cs : List Int) (ws : Wds) (a f : List Int) (i : Nat) (row : List Int) (ws' : Wds), a.length ≤ 60 → W61 ws → bkLen ws a f i cs = .inr (row, ws') → W61 ws'
  | [], ws, a, f, i, row, ws', _, h, e => by
    have e : Sum.inr (f, ws) = (Sum.inr (row, ws') : Sum Nat (List Int × Wds)) := e
    cases e
    exact h
  | c :: cs, ws, a, f, i, row, ws', ha, h, e => by
    unfold bkLen at e
    split at e
    · cases e
    · split at e
      · cases e
      · rename_i h1 h2
        exact w61_len cs _ _ _ _ _ _ (by omega) (w61_learn h ha) e
def spRoom (K : PySem.W.Frag) : Sp := fun vs H Q _ => ∃ (l : Addr) (xs : List V), vs = [.ref l] ∧ SqL K H l xs ∧ Q (.bl (decide (xs.length < 44))) H
def spWAB (K : PySem.W.Frag) : Sp := fun vs H Q _ => ∃ (l : Addr) (xs : List V), vs = [.ref l] ∧ SqL K H l xs ∧ ∀ p, H p = none → Q (.ref p) (upd H p (.lst (if xs.length < 44 then xs else [])))
def spLC (K : PySem.W.Frag) : Sp := fun vs H Q _ => ∃ (l a : Addr) (i : Nat) (P : List WP) (ns : List Int), vs = [.ref l, .ref a, .int (i : Int)] ∧ SqL K H l (refsW P) ∧ TF K (knW P) H ∧ SqL K H a (ns.map V.int) ∧ i < ns.length ∧ ∀ H', Same H H' → Q (.int (bkCode (ns.drop i) (wsOf P))) H'
def spWO (K : PySem.W.Frag) : Sp := fun vs H Q _ => ∃ (l : Addr) (c : Int) (P : List WP), vs = [.ref l, .int c] ∧ SqL K H l (refsW P) ∧ TF K (knW P) H ∧ 0 ≤ c ∧ c < 256 + (P.length : Int) ∧ ∀ (H' : Hp) (t : Addr), Same H H' → SqT K H' t ((bkWord (wsOf P) c).map V.int) → Q (.ref t) H'
def spLearn (K : PySem.W.Frag) : Sp := fun vs H Q _ => ∃ (l ta tu : Addr) (P : List WP) (a u : List Int), vs = [.ref l, .ref ta, .ref tu] ∧ H l = some (.lst (refsW P)) ∧ TF K (knW P) H ∧ SqT K H ta (a.map V.int) ∧ SqT K H tu (u.map V.int) ∧ a.length ≤ 1000 ∧ P.length ≤ 1000 ∧
  ∀ (H' : Hp) (P' : List WP), MvF [l] H H' → H' l = some (.lst (refsW P')) → TF K (knW P') H' → wsOf P' = bkLearn (wsOf P) a u → Q .non H'
def spBkI (C : Addr) : Sp := fun vs H Q _ => ∃ (r dx : Addr), vs = [.ref r] ∧ H r = some (.ins C dx []) ∧ ∀ (H' : Hp) (l : Addr), MvF [r] H H' → H l = none → Bk C r l [] H' → Q .non H'
def spShort (K : PySem.W.Frag) (C cY cL : Addr) : Sp := fun vs H Q E => ∃ (r l a : Addr) (P : List WP) (ns : List Int), vs = [.ref r, .ref a] ∧ Bk C r l P H ∧ TF K (knW P) H ∧ W61 (wsOf P) ∧ SqL K H a (ns.map V.int) ∧ ns.length ≤ 10000 ∧
  (Bytes ns → ns.length ≤ 60 → ∀ (H' : Hp) (l' o : Addr) (P' : List WP), MvF [r] H H' → H l' = none → H o = none → o ≠ l' → Bk C r l' P' H' → TF K (knW P') H' → wsOf P' = (bkShort (wsOf P) ns).2 → H' o = some (.lst ((bkShort (wsOf P) ns).1.map V.int)) → Q (.ref o) H') ∧
  (Bytes ns → 60 < ns.length → ∀ H' d, Same H H' → H d = none → H' d = some (.xd [(("most" : Str), .int 60), (("word" : Str), .str "TooLong")]) → E (.ref cL) (some d) H') ∧
  (∀ (i : Nat) (z : Int), ns[i]? = some z → ¬ isY z → Bytes (ns.take i) → ∀ H' d, Same H H' → H d = none → H' d = some (.xd [(("at" : Str), .int (i : Int)), (("word" : Str), .str "BadByte")]) → E (.ref cY) (some d) H')
def spLong (K : PySem.W.Frag) (C cC : Addr) : Sp := fun vs H Q E => ∃ (r l a : Addr) (P : List WP) (cs : List Int), vs = [.ref r, .ref a] ∧ Bk C r l P H ∧ TF K (knW P) H ∧ W61 (wsOf P) ∧ SqL K H a (cs.map V.int) ∧ cs.length ≤ 10000 ∧
  (∀ row ws', bkLong (wsOf P) cs = .inr (row, ws') → ∀ (H' : Hp) (l' o : Addr) (P' : List WP), MvF [r] H H' → H l' = none → H o = none → o ≠ l' → Bk C r l' P' H' → TF K (knW P') H' → wsOf P' = ws' → H' o = some (.lst (row.map V.int)) → Q (.ref o) H') ∧
  (∀ i : Nat, bkLong (wsOf P) cs = .inl i → ∀ H' d, Same H H' → H d = none → H' d = some (.xd [(("at" : Str), .int (i : Int)), (("word" : Str), .str "BadCode")]) → E (.ref cC) (some d) H')
def spBkLen (C : Addr) : Sp := fun vs H Q _ => ∃ (r l : Addr) (P : List WP), vs = [.ref r] ∧ Bk C r l P H ∧ Q (.int (P.length : Int)) H
def reprBk (n : Nat) : Str := ("Book(" : Str) ++ (toString (n : Int) : String) ++ (" learnt)" : Str)
def spBkRepr (C : Addr) : Sp := fun vs H Q _ => ∃ (r l : Addr) (P : List WP), vs = [.ref r] ∧ Bk C r l P H ∧ P.length ≤ 1000 ∧ Q (.str (reprBk P.length)) H
def spLearnt (C : Addr) : Sp := fun vs H Q _ => ∃ (r l : Addr) (P : List WP), vs = [.ref r] ∧ Bk C r l P H ∧ ∀ p, H p = none → Q (.ref p) (upd H p (.lst (refsW P)))
/-- words as data -/
def dW (ws : Wds) : PyData := .list (ws.map fun u => .tuple (u.map .int))
theorem dpa_words {K : PySem.W.Frag} {H : Hp} : ∀ {P : List WP}, TF K (knW P) H → DpAll K H (refsW P) ((wsOf P).map fun u => PyData.tuple (u.map .int))
  | [], _ => .nil
  | p :: P, h => .cons (.tup (h (twW p) (.head _)) (dpa_ints p.2)) (dpa_words (P := P) (fun q hq => h q (.tail _ hq)))
theorem dp_words {K : PySem.W.Frag} {H : Hp} {l : Addr} {P : List WP} (h : SqL K H l (refsW P)) (t : TF K (knW P) H) : Dp K H (.ref l) (dW (wsOf P)) := .lst h (dpa_words t)
theorem depth_words : ∀ ws : Wds, PyData.depthAll (ws.map fun u => PyData.tuple (u.map .int)) ≤ 1
  | [] => Nat.zero_le _
  | u :: ws => by
    show max (PyData.depthAll (u.map PyData.int) + 1) (PyData.depthAll (ws.map fun u => PyData.tuple (u.map .int))) ≤ 1
    rw [depth_ints]
    exact Nat.max_le.mpr ⟨Nat.le_refl _, depth_words ws⟩
theorem canLay_words : ∀ ws : Wds, PyData.canLayAll0 (ws.map fun u => PyData.tuple (u.map .int)) = true
  | [] => rfl
  | u :: ws => by
    show (PyData.canLayAll0 (u.map PyData.int) && PyData.canLayAll0 (ws.map fun u => PyData.tuple (u.map .int))) = true
    rw [canLay_ints, canLay_words ws]
    rfl
theorem shaped_words (ws : Wds) : SeqAt.shaped (dW ws) = true := by
  unfold SeqAt.shaped
  rw [Bool.and_eq_true]
  refine ⟨canLay_words ws, decide_eq_true ?_⟩
  show PyData.depthAll (ws.map fun u => PyData.tuple (u.map .int)) + 1 ≤ 64
  have := depth_words ws
  omega
theorem shaped_tupI (u : List Int) : SeqAt.shaped (.tuple (u.map .int)) = true := by
  unfold SeqAt.shaped
  rw [Bool.and_eq_true]
  refine ⟨canLay_ints u, decide_eq_true ?_⟩
  show PyData.depthAll (u.map PyData.int) + 1 ≤ 64
  rw [depth_ints]
  decide
theorem eqv_tupI (u v : List Int) : PyData.eqv (.tuple (u.map .int)) (.tuple (v.map .int)) = decide (u = v) := eqv_ints u v
theorem any_words (g : List Int) : ∀ ws : Wds, ((ws.map fun u => PyData.tuple (u.map .int)).any fun z => PyData.eqv z (.tuple (g.map .int))) = decide (g ∈ ws)
  | [] => rfl
  | u :: ws => by
    show (PyData.eqv (.tuple (u.map .int)) (.tuple (g.map .int)) || (ws.map fun u => PyData.tuple (u.map .int)).any fun z => PyData.eqv z (.tuple (g.map .int))) = _
    rw [any_words g ws, eqv_tupI]
    by_cases z : u = g
    · subst z
      simp
    · rw [decide_eq_false z, Bool.false_or]
      exact decide_eq_decide.mpr ⟨fun h => .tail _ h, fun h => (List.mem_cons.mp h).elim (fun e => absurd e.symm z) id⟩
theorem eqv_words : ∀ ws vs : Wds, PyData.eqv (dW ws) (dW vs) = decide (ws = vs) := by
  have : ∀ ws vs : Wds, PyData.eqvAll (ws.map fun u => PyData.tuple (u.map .int)) (vs.map fun u => PyData.tuple (u.map .int)) = decide (ws = vs) := by
    intro ws
    induction ws with
    | nil => intro vs; cases vs <;> rfl
    | cons u ws ih =>
      intro vs
      cases vs with
      | nil => rfl
      | cons v vs =>
        show (PyData.eqv (.tuple (u.map .int)) (.tuple (v.map .int)) && PyData.eqvAll (ws.map fun u => PyData.tuple (u.map .int)) (vs.map fun u => PyData.tuple (u.map .int))) = _
        rw [ih vs, eqv_tupI, ← Bool.decide_and]
        exact decide_eq_decide.mpr ⟨fun h => by rw [h.1, h.2], fun h => List.cons.inj h⟩
  exact this
theorem dn_tupI {u : List Int} (h : u.length ≤ 100000) (n : Nat) : Dn (n + 2) (.tuple (u.map .int)) := .inr (.inr (.inr (.inr ⟨_, .inr rfl, by rw [List.length_map]; exact h, fun e he => by
  obtain ⟨z, _, rfl⟩ := List.mem_map.mp he
  exact .inr (.inl ⟨z, rfl⟩)⟩)))
theorem dn_words {ws : Wds} (h : W61 ws) (n : Nat) : Dn (n + 3) (dW ws) := .inr (.inr (.inr (.inr ⟨_, .inl rfl, by rw [List.length_map]; have := h.1; omega, fun e he => by
  obtain ⟨u, hu, rfl⟩ := List.mem_map.mp he
  exact dn_tupI (by have := h.2 u hu; omega) n⟩)))
def spBkEq (K : PySem.W.Frag) (C : Addr) : Sp := fun vs H Q _ => ∃ (r l r' l' : Addr) (P P' : List WP), vs = [.ref r, .ref r'] ∧ Bk C r l P H ∧ Bk C r' l' P' H ∧ TF K (knW P) H ∧ TF K (knW P') H ∧ Q (.bl (decide (wsOf P = wsOf P'))) H
theorem Bk.same {C r l : Addr} {P : List WP} {H H' : Hp} (h : Bk C r l P H) (s : Same H H') : Bk C r l P H' := by
  obtain ⟨⟨dx, h1⟩, h2⟩ := h
  exact ⟨⟨dx, s _ _ h1⟩, s _ _ h2⟩
theorem sqL_mvI {K : PySem.W.Frag} {H H' : Hp} {r C dx a : Addr} {fs : List (Str × V)} {xs : List V} (m : MvF [r] H H') (e : H r = some (.ins C dx fs)) (h : SqL K H a xs) : SqL K H' a xs := lk_l (fun b o eb k => m.kp b o (fun z => by
  rw [in1 z, e] at eb
  cases eb
  rcases k with ⟨_, z⟩ | ⟨_, z⟩ | ⟨_, _, z⟩ <;> cases z) eb) h
theorem sc_without_last_noughts : FnScope ["numbers", "end"] ["numbers"] (defScope s_without_last_noughts) := ⟨rfl, rfl, rfl, by decide +kernel, rfl, by decide +kernel, by decide +kernel⟩
def spWN (K : PySem.W.Frag) : Sp := fun vs H Q _ => ∃ (a : Addr) (k : Bool) (ns : List Int), vs = [.ref a] ∧ SqK K k H a (ns.map V.int) ∧ ns.length ≤ 10000 ∧ ∀ (H' : Hp) (t : Addr), Same H H' → SqT K H' t ((trimS ns).map V.int) → Q (.ref t) H'
theorem cut_all (xs : List V) (n : Nat) (h : xs.length ≤ n) : HT.sIx xs.length 0 none = 0 ∧ HT.sIx xs.length xs.length (some (n : Int)) = xs.length := by
  rw [HT.sIx_none, HT.sIx_nat]
  exact ⟨rfl, by omega⟩
theorem cut_not (xs : List V) (n : Nat) (h : n < xs.length) : ¬ (HT.sIx xs.length 0 none = 0 ∧ HT.sIx xs.length xs.length (some (n : Int)) = xs.length) := by
  rw [HT.sIx_nat]
  rintro ⟨_, e⟩
  omega
theorem ok_without_last_noughts {f : Addr} {fd : FuncData} {k : Nat} (F : Fun K "without_last_noughts" "without_last_noughts" s_without_last_noughts f fd) (n_len : mg "len" = none) (n_tuple : mg "tuple" = none) : FnOk P w K mg base CX0 (k + 1) f fd ["numbers"] (spWN K) := by
  have sc := sc_without_last_noughts
  refine F.ok sc (fun vs H Q E h => ?_) (fun cdv A outer s H vs Q E hr h => ?_)
  · obtain ⟨a, kk, ns, rfl, _⟩ := h
    rfl
  · obtain ⟨a, kk, ns, rfl, hS, hlen, q⟩ := h
    refine ⟨_, (pss_cons (ps_set (i := 1) sc.nd rfl (.inl rfl) (pe_callB (call_lenK K rfl) (by rfl) n_len PySem.boot_len (pa_cons (pv 0) pa_nil)))
 (pss_cons (ps_while PassesOwn.never (PW.pt (pw_and (pt_cmpR op_gt (pv 1) pe_int (nomark _)) (pw_and1 (pt_cmpR op_eq (pe_ix (ix_seqK K rfl) (pv 0) (pe_op op_sub (pv 1) pe_int) (fun _ _ => rfl)) pe_int (nomark _)))))
  (pss_one (ps_aug (i := 1) sc.nd rfl (.inl rfl) pe_int ip_sub)))
 (pss_one (ps_ret (pe_callTy (call_tupleK K rfl) (by rfl) n_tuple (by decide +kernel) (pa_cons (pe_slice (sl_anyK K rfl) (pv 0) po_none (po_some (pv 1))) pa_nil)))))), ?_⟩
    refine ⟨_, rfl, a, _, rfl, SqK.or hS, ?_⟩
    refine name_by ?_
    rw [List.length_map]
    dsimp only
    refine seq_by (J := fun σ1 H1 => ∃ n : Nat, σ1 = [some (.ref a), some (.int (n : Int))] ∧ H1 = H ∧ n ≤ ns.length ∧ ns.take n = trimS ns) ?_ (fun rest => ?_)
    · rintro σ1 H1 ⟨n, rfl, rfl, hn, hm⟩
      refine ⟨_, rfl, _, rfl, _, rfl, ?_⟩
      have ec : cutV (ns.map V.int) none (some (n : Int)) = (trimS ns).map V.int := by rw [cut_to_n, ← List.map_take, hm]
      cases kk with
      | true =>
        refine .inl ⟨a, _, rfl, hS, fun p np => ?_⟩
        rw [ec]
        have s1 := same_upd (o := .lst ((trimS ns).map V.int)) np
        exact ⟨p, _, rfl, .inl ⟨SqL.of upd_same, fun t nt => q _ t (s1.trans (same_upd nt)) (SqT.of upd_same)⟩⟩
      | false =>
        refine .inr ⟨a, _, rfl, hS, (fun hw => ?_), (fun hw p np => ?_)⟩
        · have e : n = ns.length := by
            have := hw.2
            rw [HT.sIx_nat, List.length_map] at this
            omega
          refine ⟨a, _, rfl, .inr ⟨hS, ?_⟩⟩
          rw [e, List.take_length] at hm
          exact q H1 a (Same.refl _) (by rw [← hm]; exact hS)
        · rw [ec]
          exact ⟨p, _, rfl, .inr ⟨SqT.of upd_same, q _ p (same_upd np) (SqT.of upd_same)⟩⟩
    · refine while_w (fun σ H' => ∃ n : Nat, σ = [some (.ref a), some (.int (n : Int))] ∧ H' = H ∧ n ≤ ns.length ∧ trimS (ns.take n) = trimS ns) (fun σ _ => match σ with | [_, some (.int n)] => n.toNat | _ => 0) ⟨ns.length, rfl, rfl, Nat.le_refl _, by rw [List.take_length]⟩ ?_
      rintro σ H1 ⟨n, rfl, rfl, hn, hm⟩
      refine ⟨_, rfl, _, _, rfl, rfl, _, rfl, ite2 (fun e => ?_) (fun e => ?_)⟩
      · have e : 0 < n := by have := of_decide_eq_true e; omega
        obtain ⟨m, rfl⟩ : ∃ m, n = m + 1 := ⟨n - 1, by omega⟩
        obtain ⟨x, hx⟩ := getElem?_ex (show m < ns.length by omega)
        have hx2 : (ns.map V.int)[m]? = some (.int x) := by rw [List.getElem?_map, hx]; rfl
        have em : ((m + 1 : Nat) : Int) - 1 = (m : Int) := by omega
        have hat : atI (ns.map V.int) (((m + 1 : Nat) : Int) - 1) = some (.int x) := by rw [em]; exact atI_nat hx2
        refine ⟨_, rfl, _, rfl, _, _, rfl, rfl, ix_by hS hat ⟨rfl, _, rfl, ite2 (fun e3 => ?_) (fun e3 => ?_)⟩⟩
        · have e3 : x = 0 := V.int.inj (of_decide_eq_true e3)
          refine ⟨wN _ _ _, wN_ok, ?_⟩
          refine ⟨_, rfl, _, _, rfl, rfl, ?_⟩
          refine ⟨⟨m, by dsimp only [List.set]; rw [em], rfl, by omega, ?_⟩, by show (((m + 1 : Nat) : Int) - 1).toNat < ((m + 1 : Nat) : Int).toNat; omega⟩
          rw [← hm, take_more hx, e3, trimS_zero]
        · have e3 : x ≠ 0 := fun y => e3 (decide_eq_true (by rw [y]))
          refine rest _ _ ⟨m + 1, rfl, rfl, hn, ?_⟩
          rw [← hm, take_more hx, trimS_last e3]
      · have e : n = 0 := by
          by_cases z : n = 0
          · exact z
          · exact absurd (decide_eq_true (by omega)) e
        subst e
        exact iteF (rest _ _ ⟨0, rfl, rfl, hn, by rw [← hm]; rfl⟩)
theorem sc_right_shares : FnScope ["numbers", "shares", "share"] ["numbers"] (defScope s_right_shares) := ⟨rfl, rfl, rfl, by decide +kernel, rfl, by decide +kernel, by decide +kernel⟩
def spRS (K : PySem.W.Frag) (cT : Addr) : Sp := fun vs H Q E => ∃ (a : Addr) (k : Bool) (ns : List Int), vs = [.ref a] ∧ SqK K k H a (ns.map V.int) ∧ ns.length ≤ 10000 ∧
  (okSh ns → ∀ (H' : Hp) (t : Addr), Same H H' → SqT K H' t ((trimS ns).map V.int) → Q (.ref t) H') ∧
  (¬ okSh ns → ∀ H' d, Same H H' → H d = none → H' d = some (.xd [(("word" : Str), .str "BadTaps")]) → E (.ref cT) (some d) H')
theorem ok_right_shares {f cT : Addr} {fd : FuncData} {k : Nat} {t4 t3 : Tok} (F : Fun K "right_shares" "right_shares" s_right_shares f fd) (n_len : mg "len" = none) (n_abs : mg "abs" = none) (g_MOST_SHARES : mg "MOST_SHARES" = some (.int 4 t4)) (g_GREATEST_SHARE : mg "GREATEST_SHARE" = some (.int 3 t3))
    (x_BadTaps : XcOk P w K mg base k "BadTaps" cT (spIni0 K cT "BadTaps")) (c_without_last_noughts : Cal P w K mg base (k + 1) "without_last_noughts" ["numbers"] (spWN K)) : FnOk P w K mg base (L2.CX P w) (k + 2) f fd ["numbers"] (spRS K cT) := by
  have sc := sc_right_shares
  refine F.okX sc (fun vs H Q E h => ?_) (fun cdv A outer s H vs Q E hr h => ?_)
  · obtain ⟨a, kk, ns, rfl, _⟩ := h
    rfl
  · obtain ⟨a, kk, ns, rfl, hS, hlen, q, qe⟩ := h
    refine ⟨_, (pss_cons (ps_set (i := 1) sc.nd rfl (.inl rfl) (pe_callC c_without_last_noughts hr (by rfl) (pa_cons (pv 0) pa_nil)))
 (pss_cons (ps_if (pt_cmpR op_gt (pe_callB (call_lenK K rfl) (by rfl) n_len PySem.boot_len (pa_cons (pv 1) pa_nil)) (pe_glob (v := .int 4) (by rfl) g_MOST_SHARES ⟨_, rfl⟩) (nomark _))
  (pss_one (ps_raise rfl (takes_of rfl rfl rfl rfl) (pmk_c0 x_BadTaps hr (by rfl))))
  pss_nil)
 (pss_cons (ps_for (passes_of rfl) rfl (pi_tupK K rfl (pv 1)) (pg_name (i := 2) sc.nd rfl (.inl rfl))
  (pss_one (ps_if (pt_cmpR op_gt (pe_callB call_abs (by rfl) n_abs (by decide +kernel) (pa_cons (pv 2) pa_nil)) (pe_glob (v := .int 3) (by rfl) g_GREATEST_SHARE ⟨_, rfl⟩) (nomark _))
  (pss_one (ps_raise rfl (takes_of rfl rfl rfl rfl) (pmk_c0 x_BadTaps hr (by rfl))))
  pss_nil)))
 (pss_one (ps_ret (pv 1)))))), ?_⟩
    refine ⟨_, rfl, a, kk, ns, rfl, hS, hlen, fun H1 t s1 ht => ?_⟩
    refine name_by ?_
    refine ⟨_, rfl, t, _, rfl, .inr ht, _, _, rfl, rfl, _, rfl, ite2 (fun e => ?_) (fun e => ?_)⟩
    · have e : ¬ okSh ns := fun h => by
        have := of_decide_eq_true e
        rw [List.length_map] at this
        have := h.1
        omega
      exact mk_inner0 (fun H3 d s3 nd ed => qe e H3 d (s1.trans s3) (s1.free nd) ed)
    · have e4 : (trimS ns).length ≤ 4 := by
        have : ¬ (4 : Int) < (((trimS ns).map V.int).length : Int) := fun y => e (decide_eq_true y)
        rw [List.length_map] at this
        omega
      refine ⟨_, rfl, t, rfl, ⟨_, ht⟩, for_tup (K := K) (a := t) (xs := (trimS ns).map V.int) (fun i σ H' => ∃ y2, σ = [some (.ref a), some (.ref t), y2] ∧ H' = H1 ∧ ∀ x ∈ (trimS ns).take i, small x) ⟨none, rfl, rfl, fun x hx => absurd hx List.not_mem_nil⟩ (fun i σ H' _ h => by obtain ⟨y2, _, rfl, _⟩ := h; exact ht) ?_ ?_⟩
      · rintro i x σ H' hx ⟨y2, rfl, rfl, hsm⟩
        obtain ⟨z, hz, rfl⟩ := getI hx
        refine ⟨_, rfl, z, rfl, _, _, rfl, rfl, _, rfl, ite2 (fun e2 => ?_) (fun e2 => ?_)⟩
        · have ns_ : ¬ okSh ns := fun h => by
            have h2 := of_decide_eq_true e2
            have h3 := h.2 z (List.mem_of_getElem? hz)
            unfold small at h3
            split at h2 <;> omega
          exact mk_inner0 (fun H3 d s3 nd ed => qe ns_ H3 d (s1.trans s3) (s1.free nd) ed)
        · have h2 : small z := by
            have h2 : ¬ (3 : Int) < (if z < 0 then -z else z) := fun y => e2 (decide_eq_true y)
            unfold small
            split at h2 <;> omega
          refine ⟨_, rfl, rfl, ?_⟩
          rw [take_more hz]
          intro y hy
          rcases List.mem_append.mp hy with h | h
          · exact hsm y h
          · rw [List.mem_singleton.mp h]
            exact h2
      · rintro σ H' ⟨y2, rfl, rfl, hsm⟩
        rw [List.length_map, List.take_length] at hsm
        exact ⟨_, rfl, q ⟨e4, hsm⟩ H' t s1 ht⟩
theorem sc_left_behind : FnScope ["shares", "tones", "share", "tone"] ["shares", "tones"] (defScope s_left_behind) := ⟨rfl, rfl, rfl, by decide +kernel, rfl, by decide +kernel, by decide +kernel⟩
def spLB (K : PySem.W.Frag) : Sp := fun vs H Q _ => ∃ (t l : Addr) (ws ns : List Int), vs = [.ref t, .ref l] ∧ SqT K H t (ws.map V.int) ∧ SqL K H l (ns.map V.int) ∧ (∀ x ∈ ws, small x) ∧ ws.length ≤ 1000 ∧ ∀ H', Same H H' → Q (.int (dotL ws ns)) H'
theorem zw_take {ws ns : List Int} {i : Nat} {x y : Int} (hx : ws[i]? = some x) (hy : ns[i]? = some y) : (List.zipWith (· * ·) ws ns).take (i + 1) = (List.zipWith (· * ·) ws ns).take i ++ [x * y] := by
  refine take_more ?_
  rw [List.getElem?_zipWith, hx, hy]
theorem ok_left_behind {f : Addr} {fd : FuncData} {k : Nat} (F : Fun K "left_behind" "left_behind" s_left_behind f fd) (n_sum : mg "sum" = none) (n_zip : mg "zip" = none) : FnOk P w K mg base CX0 (k + 1) f fd ["shares", "tones"] (spLB K) := by
  have sc := sc_left_behind
  refine F.ok sc (fun vs H Q E h => ?_) (fun cdv A outer s H vs Q E hr h => ?_)
  · obtain ⟨t, l, ws, ns, rfl, _⟩ := h
    rfl
  · obtain ⟨t, l, ws, ns, rfl, ht, hl, hsm, hwl, q⟩ := h
    refine ⟨_, (pss_one (ps_ret (pe_callB (cr_sumK K rfl rfl) (by rfl) n_sum (by decide +kernel) (pa_cons (pe_lc (own := [("share", 2), ("tone", 3)]) (g := (gTup K 2 (gCons (gName 2) (gCons (gName 3) gNil)))) (by rfl) sc.nd (pi_zip2 K rfl (by rfl) n_zip (pa_cons (pv 0) (pa_cons (pv 1) pa_nil))) (blkOk_by (own := [("share", 2), ("tone", 3)]) (N := ["shares", "tones", "share", "tone"]) (sc := defScope s_left_behind) (by decide +kernel)) (fun _ _ _ _ _ => (pg_tup rfl (pgs_cons (pg_name (i := 2) sc.nd rfl (Or.inl rfl)) (pgs_cons (pg_name (i := 3) sc.nd rfl (Or.inl rfl)) pgs_nil)))) (fun _ _ _ _ _ => pts_nil) (fun _ _ _ _ _ => (pe_op op_mul (pv 2) (pv 3)))) pa_nil)))), ?_⟩
    refine ⟨_, rfl, _, rfl, t, l, false, true, _, _, rfl, ht, hl, fun D nD => lc_it (walk_z2 (K := K) (k1 := false) (k2 := true) (a := t) (b := l) (xs := ws.map V.int) (ys := ns.map V.int) rfl) (fun i H' => Same H H' ∧ H' D = some (.lst (((List.zipWith (· * ·) ws ns).take i).map V.int))) ⟨same_upd nD, upd_same⟩ (fun i H' _ h => ⟨same_t h.1 ht, h.1.seq hl⟩) ?_ ?_⟩
    · rintro i v H1 H2 hi ⟨s1, eD⟩ ⟨T, x, y, rfl, nT, rfl, hx0, hy0⟩
      obtain ⟨x, hx, rfl⟩ := getI hx0
      obtain ⟨y, hy, rfl⟩ := getI hy0
      have hi2 : i < ws.length := (List.getElem?_eq_some_iff.mp hx).1
      have s2 := s1.trans (same_upd (o := .tup [.int x, .int y]) nT)
      refine ⟨T, _, rfl, SqT.of upd_same, rfl, _, _, rfl, _, _, rfl, rfl, rfl, tYes_by (iteT ?_)⟩
      have hxs := hsm x (List.mem_of_getElem? hx)
      unfold small at hxs
      refine ⟨_, rfl, _, rfl, _, _, rfl, rfl, .inl ⟨by omega, by omega⟩, ?_⟩
      refine ⟨_, same_upd nT _ _ eD, ?_, ?_, ?_⟩
      · rw [List.length_map, List.length_take]
        exact sz4l (by omega)
      · exact same_mut s2 nD
      · rw [upd_same, zw_take hx hy, List.map_append]
        rfl
    · rintro H1 ⟨s1, eD⟩
      rw [List.take_of_length_le (by rw [List.length_zipWith, List.length_map, List.length_map]; exact Nat.le_refl _)] at eD
      exact ⟨D, _, rfl, SqL.of eD, q H1 s1⟩
theorem sc_no_tones : FnScope [] [] (defScope s_no_tones) := ⟨rfl, rfl, rfl, by decide +kernel, rfl, by decide +kernel, by decide +kernel⟩
def spNT : Sp := fun vs H Q _ => vs = [] ∧ ∀ (H' : Hp) (l : Addr), Same H H' → H l = none → H' l = some (.lst (([0, 0, 0, 0] : List Int).map V.int)) → Q (.ref l) H'
theorem ok_no_tones {f : Addr} {fd : FuncData} {k : Nat} {t4 : Tok} (F : Fun K "no_tones" "no_tones" s_no_tones f fd) (g_MOST_SHARES : mg "MOST_SHARES" = some (.int 4 t4)) : FnOk P w K mg base CX0 (k + 1) f fd [] spNT := by
  have sc := sc_no_tones
  refine F.ok sc (fun vs H Q E h => ?_) (fun cdv A outer s H vs Q E hr h => ?_)
  · obtain ⟨rfl, _⟩ := h
    rfl
  · obtain ⟨rfl, q⟩ := h
    refine ⟨_, (pss_one (ps_ret (pe_op op_rep (pe_lst (pa_cons pe_int pa_nil)) (pe_glob (v := .int 4) (by rfl) g_MOST_SHARES ⟨_, rfl⟩)))), ?_⟩
    refine ⟨(by show 1 ≤ sizeLine; decide), fun p np => ⟨p, 4, _, rfl, rfl, upd_same, by decide, by decide, (by show 1 * 4 ≤ sizeLine; decide), fun l nl => ?_⟩⟩
    have s1 := same_upd (o := .lst [.int 0]) np
    exact q _ l (s1.trans (same_upd nl)) (s1.free nl) upd_same
theorem sc_with_latest : FnScope ["tone", "tones"] ["tone", "tones"] (defScope s_with_latest) := ⟨rfl, rfl, rfl, by decide +kernel, rfl, by decide +kernel, by decide +kernel⟩
def spWL (K : PySem.W.Frag) : Sp := fun vs H Q _ => ∃ (t : Int) (l : Addr) (ns : List Int), vs = [.int t, .ref l] ∧ SqL K H l (ns.map V.int) ∧ ∀ (H' : Hp) (l' : Addr), Same H H' → H l' = none → H' l' = some (.lst ((t :: ns.take 3).map V.int)) → Q (.ref l') H'
theorem ok_with_latest {f : Addr} {fd : FuncData} {k : Nat} {t4 : Tok} (F : Fun K "with_latest" "with_latest" s_with_latest f fd) (g_MOST_SHARES : mg "MOST_SHARES" = some (.int 4 t4)) : FnOk P w K mg base CX0 (k + 1) f fd ["tone", "tones"] (spWL K) := by
  have sc := sc_with_latest
  refine F.ok sc (fun vs H Q E h => ?_) (fun cdv A outer s H vs Q E hr h => ?_)
  · obtain ⟨t, l, ns, rfl, _⟩ := h
    rfl
  · obtain ⟨t, l, ns, rfl, hl, q⟩ := h
    refine ⟨_, (pss_one (ps_ret (pe_op op_cat (pe_lst (pa_cons (pv 0) pa_nil)) (pe_slice (sl_listK K rfl) (pv 1) po_none (po_some (pe_op op_sub (pe_glob (v := .int 4) (by rfl) g_MOST_SHARES ⟨_, rfl⟩) pe_int)))))), ?_⟩
    refine ⟨_, rfl, (by show 1 ≤ sizeLine; decide), fun p1 n1 => ?_⟩
    have s1 := same_upd (o := .lst [.int t]) n1
    refine ⟨_, rfl, _, _, rfl, rfl, _, rfl, l, _, rfl, s1.seq hl, fun p2 n2 => ?_⟩
    have ec : cutV (ns.map V.int) none (some ((4 : Int) - 1)) = (ns.take 3).map V.int := by
      rw [show (4 : Int) - 1 = ((3 : Nat) : Int) by decide, cut_to_n, List.map_take]
    rw [ec]
    have s2 := s1.trans (same_upd (o := .lst ((ns.take 3).map V.int)) n2)
    have e1 : upd (upd H p1 (.lst [.int t])) p2 (.lst ((ns.take 3).map V.int)) p1 = some (.lst [.int t]) := same_upd n2 _ _ upd_same
    refine ⟨p1, p2, _, _, rfl, rfl, e1, upd_same, ?_, fun p3 n3 => ?_⟩
    · rw [List.length_map, List.length_take]
      refine sz4 ?_
      show 1 + min 3 ns.length ≤ 100000
      omega
    exact q _ p3 (s2.trans (same_upd n3)) (s2.free n3) upd_same
theorem sc_probe : FnScope [] [] (defScope s_probe) := ⟨rfl, rfl, rfl, by decide +kernel, rfl, by decide +kernel, by decide +kernel⟩
def spProbe : Sp := fun vs H Q _ => vs = [] ∧ ∀ (H' : Hp) (l : Addr), Same H H' → H l = none → H' l = some (.lst (([1000, 0, 0, 0, 0] : List Int).map V.int)) → Q (.ref l) H'
theorem ok_probe {f : Addr} {fd : FuncData} {k : Nat} {tS tP5 : Tok} (F : Fun K "probe" "probe" s_probe f fd) (g_STRONG : mg "STRONG" = some (.int 1000 tS)) (g_PROBE_BEATS : mg "PROBE_BEATS" = some (.int 5 tP5)) : FnOk P w K mg base CX0 (k + 1) f fd [] spProbe := by
  have sc := sc_probe
  refine F.ok sc (fun vs H Q E h => ?_) (fun cdv A outer s H vs Q E hr h => ?_)
  · obtain ⟨rfl, _⟩ := h
    rfl
  · obtain ⟨rfl, q⟩ := h
    refine ⟨_, (pss_one (ps_ret (pe_op op_cat (pe_lst (pa_cons (pe_glob (v := .int 1000) (by rfl) g_STRONG ⟨_, rfl⟩) pa_nil)) (pe_op op_rep (pe_lst (pa_cons pe_int pa_nil)) (pe_op op_sub (pe_glob (v := .int 5) (by rfl) g_PROBE_BEATS ⟨_, rfl⟩) pe_int))))), ?_⟩
    refine ⟨(by show 1 ≤ sizeLine; decide), fun p1 n1 => ⟨(by show 1 ≤ sizeLine; decide), fun p2 n2 => ⟨_, _, rfl, rfl, p2, _, _, rfl, rfl, upd_same, by decide, by decide, (by show 1 * 4 ≤ sizeLine; decide), fun p3 n3 => ?_⟩⟩⟩
    have s1 := same_upd (o := .lst [.int 1000]) n1
    have s2 := s1.trans (same_upd (o := .lst [.int 0]) n2)
    have s3 := s2.trans (same_upd (o := .lst (List.replicate 4 [V.int 0]).flatten) n3)
    refine ⟨p1, p3, _, _, rfl, rfl, same_upd n3 _ _ (same_upd n2 _ _ upd_same), upd_same, (by show 5 ≤ sizeLine; decide), fun p4 n4 => ?_⟩
    exact q _ p4 (s3.trans (same_upd n4)) (s3.free n4) upd_same
theorem sc_shares_of : FnScope ["heard", "number"] ["heard"] (defScope s_shares_of) := ⟨rfl, rfl, rfl, by decide +kernel, rfl, by decide +kernel, by decide +kernel⟩
/-- the nearest whole count of a thousand, of a half the greater -/
def shareI (n : Int) : Int := (n + 500) / 1000
def spSO (K : PySem.W.Frag) : Sp := fun vs H Q _ => ∃ (a : Addr) (ns : List Int), vs = [.ref a] ∧ SqL K H a (ns.map V.int) ∧ ns.length ≤ 10000 ∧ ∀ (H' : Hp) (l : Addr), Same H H' → H l = none → H' l = some (.lst ((ns.map shareI).map V.int)) → Q (.ref l) H'
theorem ok_shares_of {f : Addr} {fd : FuncData} {k : Nat} {tS : Tok} (F : Fun K "shares_of" "shares_of" s_shares_of f fd) (g_STRONG : mg "STRONG" = some (.int 1000 tS)) : FnOk P w K mg base CX0 (k + 1) f fd ["heard"] (spSO K) := by
  have sc := sc_shares_of
  refine F.ok sc (fun vs H Q E h => ?_) (fun cdv A outer s H vs Q E hr h => ?_)
  · obtain ⟨a, ns, rfl, _⟩ := h
    rfl
  · obtain ⟨a, ns, rfl, hS, hlen, q⟩ := h
    refine ⟨_, (pss_one (ps_ret (pe_lc (own := [("number", 1)]) (g := gName 1) (by rfl) sc.nd (pi_listK K rfl (pv 0)) (blkOk_by (own := [("number", 1)]) (N := ["heard", "number"]) (sc := defScope s_shares_of) (by decide +kernel)) (fun _ _ _ _ _ => (pg_name (i := 1) sc.nd rfl (Or.inl rfl))) (fun _ _ _ _ _ => pts_nil) (fun _ _ _ _ _ => (pe_op op_fdiv (pe_op op_add (pv 1) (pe_op op_fdiv (pe_glob (v := .int 1000) (by rfl) g_STRONG ⟨_, rfl⟩) pe_int)) (pe_glob (v := .int 1000) (by rfl) g_STRONG ⟨_, rfl⟩)))))), ?_⟩
    refine ⟨_, rfl, a, rfl, ⟨_, hS⟩, fun D nD => lc_list (K := K) (a := a) (xs := ns.map V.int) (fun i H' => Same H H' ∧ H' D = some (.lst (((ns.take i).map shareI).map V.int))) ⟨same_upd nD, upd_same⟩ (fun i H' _ h => h.1.seq hS) ?_ ?_⟩
    · rintro i x H1 hx ⟨s1, eD⟩
      obtain ⟨z, hz, rfl⟩ := getI hx
      have hil : i < ns.length := (List.getElem?_eq_some_iff.mp hz).1
      refine ⟨rfl, tYes_by (iteT ?_)⟩
      refine ⟨_, rfl, _, _, rfl, rfl, ⟨by decide, by decide⟩, _, _, rfl, rfl, _, _, rfl, rfl, ⟨by decide, by decide⟩, ?_⟩
      refine ⟨_, eD, ?_, same_mut s1 nD, ?_⟩
      · rw [List.length_map, List.length_map, List.length_take]
        exact sz4l (by omega)
      · rw [upd_same, take_more hz, List.map_append, List.map_append]
        rfl
    · rintro H1 ⟨s1, eD⟩
      rw [List.length_map, List.take_length] at eD
      exact q H1 D s1 nD eD
theorem sc_counts_of_probe : FnScope ["heard"] ["heard"] (defScope s_counts_of_probe) := ⟨rfl, rfl, rfl, by decide +kernel, rfl, by decide +kernel, by decide +kernel⟩
def Ref0 (C : Addr) (nm : Str) (H : Hp) (E : XK) : Prop := ∀ (H' : Hp) (d : Addr), Same H H' → H d = none → H' d = some (.xd [(("word" : Str), .str nm)]) → E (.ref C) (some d) H'
theorem Ref0.after {C : Addr} {nm : Str} {H H1 : Hp} {E : XK} (h : Ref0 C nm H E) (s : Same H H1) : Ref0 C nm H1 E := fun H' d s' nd ed => h H' d (s.trans s') (s.free nd) ed
def spCP (K : PySem.W.Frag) (cS : Addr) : Sp := fun vs H Q E => ∃ (a : Addr) (ns : List Int), vs = [.ref a] ∧ SqL K H a (ns.map V.int) ∧ ns.length ≤ 10000 ∧ (ns.length = 5 → ∀ (H' : Hp) (l : Addr), Same H H' → H l = none → H' l = some (.lst ((ns.map shareI).map V.int)) → Q (.ref l) H') ∧ (ns.length ≠ 5 → Ref0 cS "BadNoise" H E)
theorem ok_counts_of_probe {f cS : Addr} {fd : FuncData} {k : Nat} {tP5 : Tok} (F : Fun K "counts_of_probe" "counts_of_probe" s_counts_of_probe f fd) (n_len : mg "len" = none) (g_PROBE_BEATS : mg "PROBE_BEATS" = some (.int 5 tP5)) (x_BadNoise : XcOk P w K mg base k "BadNoise" cS (spIni0 K cS "BadNoise")) (c_shares_of : Cal P w K mg base (k + 1) "shares_of" ["heard"] (spSO K)) :
    FnOk P w K mg base (L2.CX P w) (k + 2) f fd ["heard"] (spCP K cS) := by
  have sc := sc_counts_of_probe
  refine F.okX sc (fun vs H Q E h => ?_) (fun cdv A outer s H vs Q E hr h => ?_)
  · obtain ⟨a, ns, rfl, _⟩ := h
    rfl
  · obtain ⟨a, ns, rfl, hS, hlen, q, qe⟩ := h
    refine ⟨_, (pss_cons (ps_if (pt_cmpR op_ne (pe_callB (call_lenK K rfl) (by rfl) n_len PySem.boot_len (pa_cons (pv 0) pa_nil)) (pe_glob (v := .int 5) (by rfl) g_PROBE_BEATS ⟨_, rfl⟩) (nomark _))
  (pss_one (ps_raise rfl (takes_of rfl rfl rfl rfl) (pmk_c0 x_BadNoise hr (by rfl))))
  pss_nil)
 (pss_one (ps_ret (pe_callC c_shares_of hr (by rfl) (pa_cons (pv 0) pa_nil))))), ?_⟩
    refine ⟨_, rfl, a, _, rfl, .inl hS, rfl, _, rfl, ite2 (fun e => ?_) (fun e => ?_)⟩
    · have e : ns.length ≠ 5 := fun z => by
        have := ne_t e
        rw [List.length_map, z] at this
        exact this rfl
      exact mk_inner0 (fun H3 d s3 nd ed => qe e H3 d s3 nd ed)
    · have e : ns.length = 5 := by
        have := ne_f e
        rw [List.length_map] at this
        omega
      exact ⟨_, rfl, a, ns, rfl, hS, hlen, q e⟩
theorem at_last {xs : List V} {v : V} {n : Nat} (hl : xs.length = n + 1) (h : xs[n]? = some v) : atI xs (-1) = some v := by
  have e : ixN (n + 1) (-1) = some n := by
    unfold ixN
    rw [if_neg (by omega), if_pos (by omega)]
    congr 1
    omega
  unfold atI
  rw [hl, e]
  exact h
theorem sc_taps_of : FnScope ["heard", "counts"] ["heard"] (defScope s_taps_of) := ⟨rfl, rfl, rfl, by decide +kernel, rfl, by decide +kernel, by decide +kernel⟩
/-- taps, as heard -/
def tapsL (ns : List Int) : Option (List Int) := if (ns.map shareI).getD 0 0 = 1 ∧ (trimS ((ns.map shareI).drop 1)).length ≤ 4 ∧ (∀ x ∈ trimS ((ns.map shareI).drop 1), -3 ≤ x ∧ x ≤ 3) then some (trimS ((ns.map shareI).drop 1)) else none
def spTO (K : PySem.W.Frag) (cT cS : Addr) : Sp := fun vs H Q E => ∃ (a : Addr) (ns : List Int), vs = [.ref a] ∧ SqL K H a (ns.map V.int) ∧ ns.length ≤ 10000 ∧ (ns.length = 5 → ∀ ws, tapsL ns = some ws → ∀ (H' : Hp) (t : Addr), Same H H' → SqT K H' t (ws.map V.int) → Q (.ref t) H') ∧ (ns.length = 5 → tapsL ns = none → Ref0 cT "BadTaps" H E) ∧ (ns.length ≠ 5 → Ref0 cS "BadNoise" H E)
theorem ok_taps_of {f cT cS : Addr} {fd : FuncData} {k : Nat} (F : Fun K "taps_of" "taps_of" s_taps_of f fd) (x_BadTaps : XcOk P w K mg base k "BadTaps" cT (spIni0 K cT "BadTaps")) (c_counts_of_probe : CalX P w K mg base (k + 1) "counts_of_probe" ["heard"] (spCP K cS)) (c_right_shares : CalX P w K mg base (k + 1) "right_shares" ["numbers"] (spRS K cT)) :
    FnOk P w K mg base (L2.CX P w) (k + 2) f fd ["heard"] (spTO K cT cS) := by
  have sc := sc_taps_of
  refine F.okX sc (fun vs H Q E h => ?_) (fun cdv A outer s H vs Q E hr h => ?_)
  · obtain ⟨a, ns, rfl, _⟩ := h
    rfl
  · obtain ⟨a, ns, rfl, hS, hlen, q, qt, qs⟩ := h
    refine ⟨_, (pss_cons (ps_set (i := 1) sc.nd rfl (.inl rfl) (pe_callP c_counts_of_probe hr (passes_call (takes_of rfl rfl rfl rfl) (fun _ _ _ _ h => h)) (by rfl) (pa_cons (pv 0) pa_nil)))
 (pss_cons (ps_if (pt_cmpR op_ne (pe_ix (ix_listK K rfl) (pv 1) pe_int (fun _ _ => rfl)) pe_int (nomark _))
  (pss_one (ps_raise rfl (takes_of rfl rfl rfl rfl) (pmk_c0 x_BadTaps hr (by rfl))))
  pss_nil)
 (pss_one (ps_ret (pe_callP c_right_shares hr (passes_call (takes_of rfl rfl rfl rfl) (fun _ _ _ _ h => h)) (by rfl) (pa_cons (pe_slice (sl_listK K rfl) (pv 1) (po_some pe_int) po_none) pa_nil)))))), ?_⟩
    refine ⟨_, rfl, a, ns, rfl, hS, hlen, (fun h5 H1 l s1 nl el => ?_), qs⟩
    refine name_by ?_
    have q := q h5
    have qt := qt h5
    have g0 : ((ns.map shareI).map V.int)[0]? = some (.int ((ns.map shareI).getD 0 0)) := by
      rw [List.getElem?_map, List.getD_eq_getElem?_getD, List.getElem?_eq_getElem (by rw [List.length_map]; omega)]
      rfl
    have hat : atI ((ns.map shareI).map V.int) (0 : Int) = some (.int ((ns.map shareI).getD 0 0)) := atI_nat (j := 0) g0
    refine ⟨_, rfl, l, _, _, _, rfl, rfl, SqL.of el, hat, rfl, _, rfl, ite2 (fun e => ?_) (fun e => ?_)⟩
    · have hn : tapsL ns = none := if_neg (fun c => ne_t e c.1)
      exact mk_inner0 (fun H3 d s3 nd ed => qt hn H3 d (s1.trans s3) (s1.free nd) ed)
    · have e := ne_f e
      refine ⟨_, rfl, _, rfl, l, _, rfl, SqL.of el, fun p np => ?_⟩
      have ec : cutV ((ns.map shareI).map V.int) (some 1) none = ((ns.map shareI).drop 1).map V.int := by
        rw [show (1 : Int) = ((1 : Nat) : Int) from rfl, cut_from_n, List.map_drop]
      rw [ec]
      have s2 := s1.trans (same_upd (o := .lst (((ns.map shareI).drop 1).map V.int)) np)
      refine ⟨p, true, _, rfl, SqL.of upd_same, by rw [List.length_drop, List.length_map]; omega, (fun hok H3 t s3 ht => ?_), (fun hno H3 d s3 nd ed => ?_)⟩
      · exact q _ (if_pos ⟨e, hok.1, hok.2⟩) H3 t (s2.trans s3) ht
      · exact qt (if_neg (fun c => hno ⟨c.2.1, c.2.2⟩)) H3 d (s2.trans s3) (s2.free nd) ed
theorem sc_echo_of : FnScope ["heard", "counts"] ["heard"] (defScope s_echo_of) := ⟨rfl, rfl, rfl, by decide +kernel, rfl, by decide +kernel, by decide +kernel⟩
def echoL (ns : List Int) : Option (List Int) := if (ns.map shareI).getD 4 0 = 0 ∧ (trimS ((ns.map shareI).take 4)).length ≤ 4 ∧ (∀ x ∈ trimS ((ns.map shareI).take 4), -3 ≤ x ∧ x ≤ 3) then some (trimS ((ns.map shareI).take 4)) else none
def spEO (K : PySem.W.Frag) (cT cS : Addr) : Sp := fun vs H Q E => ∃ (a : Addr) (ns : List Int), vs = [.ref a] ∧ SqL K H a (ns.map V.int) ∧ ns.length ≤ 10000 ∧ (ns.length = 5 → ∀ ws, echoL ns = some ws → ∀ (H' : Hp) (t : Addr), Same H H' → SqT K H' t (ws.map V.int) → Q (.ref t) H') ∧ (ns.length = 5 → echoL ns = none → Ref0 cT "BadTaps" H E) ∧ (ns.length ≠ 5 → Ref0 cS "BadNoise" H E)
theorem ok_echo_of {f cT cS : Addr} {fd : FuncData} {k : Nat} (F : Fun K "echo_of" "echo_of" s_echo_of f fd) (x_BadTaps : XcOk P w K mg base k "BadTaps" cT (spIni0 K cT "BadTaps")) (c_counts_of_probe : CalX P w K mg base (k + 1) "counts_of_probe" ["heard"] (spCP K cS)) (c_right_shares : CalX P w K mg base (k + 1) "right_shares" ["numbers"] (spRS K cT)) :
    FnOk P w K mg base (L2.CX P w) (k + 2) f fd ["heard"] (spEO K cT cS) := by
  have sc := sc_echo_of
  refine F.okX sc (fun vs H Q E h => ?_) (fun cdv A outer s H vs Q E hr h => ?_)
  · obtain ⟨a, ns, rfl, _⟩ := h
    rfl
  · obtain ⟨a, ns, rfl, hS, hlen, q, qt, qs⟩ := h
    refine ⟨_, (pss_cons (ps_set (i := 1) sc.nd rfl (.inl rfl) (pe_callP c_counts_of_probe hr (passes_call (takes_of rfl rfl rfl rfl) (fun _ _ _ _ h => h)) (by rfl) (pa_cons (pv 0) pa_nil)))
 (pss_cons (ps_if (pt_cmpR op_ne (pe_ix (ix_listK K rfl) (pv 1) (pe_un un_neg pe_int) (fun _ _ => rfl)) pe_int (nomark _))
  (pss_one (ps_raise rfl (takes_of rfl rfl rfl rfl) (pmk_c0 x_BadTaps hr (by rfl))))
  pss_nil)
 (pss_one (ps_ret (pe_callP c_right_shares hr (passes_call (takes_of rfl rfl rfl rfl) (fun _ _ _ _ h => h)) (by rfl) (pa_cons (pe_slice (sl_listK K rfl) (pv 1) po_none (po_some (pe_un un_neg pe_int))) pa_nil)))))), ?_⟩
    refine ⟨_, rfl, a, ns, rfl, hS, hlen, (fun h5 H1 l s1 nl el => ?_), qs⟩
    refine name_by ?_
    have q := q h5
    have qt := qt h5
    have hl5 : ((ns.map shareI).map V.int).length = 5 := by rw [List.length_map, List.length_map, h5]
    have g4 : ((ns.map shareI).map V.int)[4]? = some (.int ((ns.map shareI).getD 4 0)) := by
      rw [List.getElem?_map, List.getD_eq_getElem?_getD, List.getElem?_eq_getElem (by rw [List.length_map]; omega)]
      rfl
    have hat : atI ((ns.map shareI).map V.int) (-1 : Int) = some (.int ((ns.map shareI).getD 4 0)) := by
      have := at_last hl5 g4
      exact this
    refine ⟨_, rfl, 1, rfl, l, _, _, _, rfl, rfl, SqL.of el, hat, rfl, _, rfl, ite2 (fun e => ?_) (fun e => ?_)⟩
    · have hn : echoL ns = none := if_neg (fun c => ne_t e c.1)
      exact mk_inner0 (fun H3 d s3 nd ed => qt hn H3 d (s1.trans s3) (s1.free nd) ed)
    · have e := ne_f e
      refine ⟨_, rfl, 1, rfl, _, rfl, l, _, rfl, SqL.of el, fun p np => ?_⟩
      have ec : cutV ((ns.map shareI).map V.int) none (some (-1)) = ((ns.map shareI).take 4).map V.int := by
        rw [show (-1 : Int) = -((1 : Nat) : Int) from rfl, cut_to_b _ 1 (by decide), hl5, List.map_take]
      rw [ec]
      have s2 := s1.trans (same_upd (o := .lst (((ns.map shareI).take 4).map V.int)) np)
      refine ⟨p, true, _, rfl, SqL.of upd_same, by rw [List.length_take, List.length_map]; omega, (fun hok H3 t s3 ht => ?_), (fun hno H3 d s3 nd ed => ?_)⟩
      · exact q _ (if_pos ⟨e, hok.1, hok.2⟩) H3 t (s2.trans s3) ht
      · exact qt (if_neg (fun c => hno ⟨c.2.1, c.2.2⟩)) H3 d (s2.trans s3) (s2.free nd) ed
theorem eqv_tups (ns ms : List Int) : PyData.eqv (.tuple (ns.map PyData.int)) (.tuple (ms.map PyData.int)) = decide (ns = ms) := by
  have h := eqv_ints ns ms
  exact h
theorem shaped_tup (ns : List Int) : SeqAt.shaped (.tuple (ns.map PyData.int)) = true := shaped_ints ns
/-! ### wires as objects -/
structure WrC (K : PySem.W.Frag) (C : Addr) : Prop where
  cls : Cls K C
  nf : NoAttr K C "four"
  n1 : NoAttr K C "one_tones"
  n2 : NoAttr K C "other_tones"
abbrev wrF (f p q : Addr) : List (Str × V) := [(("four" : Str), .ref f), (("one_tones" : Str), .ref p), (("other_tones" : Str), .ref q)]
structure Wr (C r f p q : Addr) (ns ms : List Int) (H : Hp) : Prop where
  ins : ∃ dx, H r = some (.ins C dx (wrF f p q))
  one : H p = some (.lst (ns.map V.int))
  oth : H q = some (.lst (ms.map V.int))
  ne : p ≠ q
def tWr (C r f p q : Addr) (ns ms : List Int) : Th := ⟨[r, p, q], Wr C r f p q ns ms, fun H H' k h => by
  obtain ⟨⟨dx, h1⟩, h2, h3, h4⟩ := h
  exact ⟨⟨dx, k _ (.head _) _ h1⟩, k _ (.tail _ (.head _)) _ h2, k _ (.tail _ (.tail _ (.head _))) _ h3, h4⟩, fun H h a ha => by
  obtain ⟨⟨dx, h1⟩, h2, h3, h4⟩ := h
  rcases List.mem_cons.mp ha with rfl | ha
  · exact ⟨_, h1, trivial⟩
  rcases List.mem_cons.mp ha with rfl | ha
  · exact ⟨_, h2, trivial⟩
  · rw [List.mem_singleton.mp ha]
    exact ⟨_, h3, trivial⟩⟩
instance (C r f p q : Addr) (ns ms : List Int) : NT (tWr C r f p q ns ms) := ⟨fun H h a ha o e => by
  obtain ⟨⟨dx, h1⟩, h2, h3, h4⟩ := h
  rcases List.mem_cons.mp ha with rfl | ha
  · rw [h1] at e
    cases e
    trivial
  rcases List.mem_cons.mp ha with rfl | ha
  · rw [h2] at e
    cases e
    trivial
  · rw [List.mem_singleton.mp ha, h3] at e
    cases e
    trivial⟩
/-- the four shares of a wire -/
structure W4 where
  forth : List Int
  back : List Int
  near : List Int
  far : List Int
def W4.Sm (W : W4) : Prop := (∀ x ∈ W.forth, small x) ∧ (∀ x ∈ W.back, small x) ∧ (∀ x ∈ W.near, small x) ∧ (∀ x ∈ W.far, small x) ∧ W.forth.length ≤ 4 ∧ W.back.length ≤ 4 ∧ W.near.length ≤ 4 ∧ W.far.length ≤ 4
def FourAt (K : PySem.W.Frag) (f : Addr) (W : W4) (H : Hp) : Prop := ∃ t0 t1 t2 t3 : Addr, SqT K H f [.ref t0, .ref t1, .ref t2, .ref t3] ∧ SqT K H t0 (W.forth.map V.int) ∧ SqT K H t1 (W.back.map V.int) ∧ SqT K H t2 (W.near.map V.int) ∧ SqT K H t3 (W.far.map V.int)
theorem FourAt.keep {f : Addr} {W : W4} {H H' : Hp} (k : ∀ t xs, SqT K H t xs → SqT K H' t xs) (h : FourAt K f W H) : FourAt K f W H' := by
  obtain ⟨t0, t1, t2, t3, h, h0, h1, h2, h3⟩ := h
  exact ⟨t0, t1, t2, t3, k _ _ h, k _ _ h0, k _ _ h1, k _ _ h2, k _ _ h3⟩

def ok4 (a0 a1 a2 a3 : List Int) : Prop := okSh a0 ∧ okSh a1 ∧ okSh a2 ∧ okSh a3
def spWi (K : PySem.W.Frag) (C cT : Addr) : Sp := fun vs H Q E => ∃ (r dx a0 a1 a2 a3 : Addr) (k0 k1 k2 k3 : Bool) (n0 n1 n2 n3 : List Int), vs = [.ref r, .ref a0, .ref a1, .ref a2, .ref a3] ∧ H r = some (.ins C dx []) ∧
  SqK K k0 H a0 (n0.map V.int) ∧ SqK K k1 H a1 (n1.map V.int) ∧ SqK K k2 H a2 (n2.map V.int) ∧ SqK K k3 H a3 (n3.map V.int) ∧ n0.length ≤ 10000 ∧ n1.length ≤ 10000 ∧ n2.length ≤ 10000 ∧ n3.length ≤ 10000 ∧
  (ok4 n0 n1 n2 n3 → ∀ (H' : Hp) (f p q : Addr), MvF [r] H H' → H p = none → H q = none → Wr C r f p q z4 z4 H' → FourAt K f ⟨trimS n0, trimS n1, trimS n2, trimS n3⟩ H' → Q .non H') ∧
  (¬ ok4 n0 n1 n2 n3 → ∀ H' d, Same H H' → H d = none → H' d = some (.xd [(("word" : Str), .str "BadTaps")]) → E (.ref cT) (some d) H')
/-- what one hears, what the other -/
def atOne (W : W4) (ns ms : List Int) (a b n : Int) : Int := b + dotL W.back ms + dotL W.near (a :: ns.take 3) + n
def atOther (W : W4) (ns ms : List Int) (a b n : Int) : Int := a + dotL W.forth ns + dotL W.far (b :: ms.take 3) + n
def spBeat (K : PySem.W.Frag) (C : Addr) : Sp := fun vs H Q _ => ∃ (r f p q z : Addr) (kz : Bool) (ns ms : List Int) (W : W4) (a b n0 n1 : Int), vs = [.ref r, .int a, .int b, .ref z] ∧ Wr C r f p q ns ms H ∧ FourAt K f W H ∧ W.Sm ∧ SqK K kz H z [.int n0, .int n1] ∧
  ∀ (H' : Hp) (t p' q' : Addr), MvF [r] H H' → H t = none → H p' = none → H q' = none → Wr C r f p' q' (a :: ns.take 3) (b :: ms.take 3) H' → H' t = some (.tup [.int (atOne W ns ms a b n0), .int (atOther W ns ms a b n1)]) → Q (.ref t) H'
def spHush (C : Addr) : Sp := fun vs H Q _ => ∃ (r f p q : Addr) (ns ms : List Int), vs = [.ref r] ∧ Wr C r f p q ns ms H ∧ ∀ (H' : Hp) (p' q' : Addr), MvF [r] H H' → H p' = none → H q' = none → Wr C r f p' q' z4 z4 H' → Q .non H'
def spWTwin (K : PySem.W.Frag) (C : Addr) : Sp := fun vs H Q _ => ∃ (r f p q : Addr) (ns ms : List Int) (W : W4), vs = [.ref r] ∧ Wr C r f p q ns ms H ∧ FourAt K f W H ∧ ok4 W.forth W.back W.near W.far ∧ W.forth.length ≤ 10000 ∧ W.back.length ≤ 10000 ∧ W.near.length ≤ 10000 ∧ W.far.length ≤ 10000 ∧
  ∀ (H' : Hp) (r' f' p' q' : Addr), Same H H' → H r' = none → H p' = none → H q' = none → Wr C r' f' p' q' ns ms H' → FourAt K f' ⟨trimS W.forth, trimS W.back, trimS W.near, trimS W.far⟩ H' → Q (.ref r') H'
def spWShares (C : Addr) : Sp := fun vs H Q _ => ∃ (r f p q : Addr) (ns ms : List Int), vs = [.ref r] ∧ Wr C r f p q ns ms H ∧ Q (.ref f) H
theorem sc_Wire___init__ : FnScope ["self", "forth", "back", "near", "far"] ["self", "forth", "back", "near", "far"] (defScope m_Wire___init__) := ⟨rfl, rfl, rfl, by decide +kernel, rfl, by decide +kernel, by decide +kernel⟩
theorem ok_Wire___init__ {f C cT : Addr} {fd : FuncData} {k : Nat} {kws : List (Str × V)} (F : FunD K "__init__" "Wire.__init__" (defArgs m_Wire___init__) (defBody m_Wire___init__) (defScope m_Wire___init__) [] kws f fd) (R : WrC K C) (c_right_shares : CalX P w K mg base k "right_shares" ["numbers"] (spRS K cT)) (c_no_tones : Cal P w K mg base k "no_tones" [] spNT) :
    FnOk P w K mg base (L2.CX P w) (k + 1) f fd ["self", "forth", "back", "near", "far"] (spWi K C cT) := by
  have sc := sc_Wire___init__
  refine F.ok sc (fun vs H Q E h => ?_) (fun cdv A outer s H vs Q E hr h => ?_)
  · obtain ⟨r, dx, a0, a1, a2, a3, k0, k1, k2, k3, n0, n1, n2, n3, rfl, _⟩ := h
    rfl
  · obtain ⟨r, dx, a0, a1, a2, a3, k0, k1, k2, k3, n0, n1, n2, n3, rfl, hr_, hS0, hS1, hS2, hS3, hl0, hl1, hl2, hl3, q, qe⟩ := h
    refine ⟨_, (pss_cons (ps_fldK K rfl (pv 0) (pe_tup (pa_cons (pe_callP c_right_shares hr (passes_call (takes_of rfl rfl rfl rfl) (fun _ _ _ _ h => h)) (by rfl) (pa_cons (pv 1) pa_nil)) (pa_cons (pe_callP c_right_shares hr (passes_call (takes_of rfl rfl rfl rfl) (fun _ _ _ _ h => h)) (by rfl) (pa_cons (pv 2) pa_nil)) (pa_cons (pe_callP c_right_shares hr (passes_call (takes_of rfl rfl rfl rfl) (fun _ _ _ _ h => h)) (by rfl) (pa_cons (pv 3) pa_nil)) (pa_cons (pe_callP c_right_shares hr (passes_call (takes_of rfl rfl rfl rfl) (fun _ _ _ _ h => h)) (by rfl) (pa_cons (pv 4) pa_nil)) pa_nil))))))
 (pss_cons (ps_fldK K rfl (pv 0) (pe_callC0 c_no_tones hr (by rfl)))
 (pss_one (ps_fldK K rfl (pv 0) (pe_callC0 c_no_tones hr (by rfl)))))), ?_⟩
    refine ⟨_, rfl, a0, k0, n0, rfl, hS0, hl0, (fun ok0 H1 t0 s1 ht0 => ?_), (fun no H1 d s1 nd ed => qe (fun h => no h.1) H1 d s1 nd ed)⟩
    refine ⟨_, rfl, a1, k1, n1, rfl, hS1.same s1, hl1, (fun ok1 H2 t1 s2 ht1 => ?_), (fun no H2 d s2 nd ed => qe (fun h => no h.2.1) H2 d (s1.trans s2) (s1.free nd) ed)⟩
    have s12 := s1.trans s2
    refine ⟨_, rfl, a2, k2, n2, rfl, hS2.same s12, hl2, (fun ok2 H3 t2 s3 ht2 => ?_), (fun no H3 d s3 nd ed => qe (fun h => no h.2.2.1) H3 d (s12.trans s3) (s12.free nd) ed)⟩
    have s13 := s12.trans s3
    refine ⟨_, rfl, a3, k3, n3, rfl, hS3.same s13, hl3, (fun ok3 H4 t3 s4 ht3 => ?_), (fun no H4 d s4 nd ed => qe (fun h => no h.2.2.2) H4 d (s13.trans s4) (s13.free nd) ed)⟩
    have s14 := s13.trans s4
    refine ⟨(by show 4 ≤ sizeLine; decide), fun f5 n5 => ?_⟩
    have s45 := same_upd (o := .tup [.ref t0, .ref t1, .ref t2, .ref t3]) n5
    have s15 := s14.trans s45
    have hF : FourAt K f5 ⟨trimS n0, trimS n1, trimS n2, trimS n3⟩ (upd H4 f5 (.tup [.ref t0, .ref t1, .ref t2, .ref t3])) :=
      ⟨t0, t1, t2, t3, SqT.of upd_same, same_t (((s2.trans s3).trans s4).trans s45) ht0, same_t ((s3.trans s4).trans s45) ht1, same_t (s4.trans s45) ht2, same_t s45 ht3⟩
    generalize upd H4 f5 (.tup [.ref t0, .ref t1, .ref t2, .ref t3]) = H5 at s15 hF ⊢
    have e5 := s15 _ _ hr_
    refine ⟨_, rfl, r, C, dx, _, rfl, e5, R.cls, R.nf, (by show 0 < 1000; decide), ?_⟩
    have ep : putF "four" (.ref f5) ([] : List (Str × V)) = [(("four" : Str), .ref f5)] := rfl
    rw [ep]
    have m6 : MvF [r] H (upd H5 r (.ins C dx [(("four" : Str), .ref f5)])) := (MvF.of s15).upd (.head _)
    have e6 : upd H5 r (.ins C dx [(("four" : Str), .ref f5)]) r = some (.ins C dx [(("four" : Str), .ref f5)]) := upd_same
    have hF6 : FourAt K f5 ⟨trimS n0, trimS n1, trimS n2, trimS n3⟩ (upd H5 r (.ins C dx [(("four" : Str), .ref f5)])) := hF.keep (fun t xs h => sqT_updI e5 h)
    generalize upd H5 r (.ins C dx [(("four" : Str), .ref f5)]) = H6 at m6 e6 hF6 ⊢
    clear hF e5 s15
    refine ⟨rfl, fun H7 p s7 np ep7 => ?_⟩
    refine ⟨_, rfl, r, C, dx, _, rfl, s7 _ _ e6, R.cls, R.n1, (by show 1 < 1000; decide), ?_⟩
    have ep2 : putF "one_tones" (.ref p) [(("four" : Str), V.ref f5)] = [(("four" : Str), .ref f5), (("one_tones" : Str), .ref p)] := rfl
    rw [ep2]
    have pr : p ≠ r := (ne_of_none e6 np).symm
    have m8 : MvF [r] H (upd H7 r (.ins C dx [(("four" : Str), .ref f5), (("one_tones" : Str), .ref p)])) := (m6.same s7).upd (.head _)
    have e8 : upd H7 r (.ins C dx [(("four" : Str), .ref f5), (("one_tones" : Str), .ref p)]) r = some (.ins C dx [(("four" : Str), .ref f5), (("one_tones" : Str), .ref p)]) := upd_same
    have hF8 : FourAt K f5 ⟨trimS n0, trimS n1, trimS n2, trimS n3⟩ (upd H7 r (.ins C dx [(("four" : Str), .ref f5), (("one_tones" : Str), .ref p)])) := (hF6.keep (fun t xs h => same_t s7 h)).keep (fun t xs h => sqT_updI (s7 _ _ e6) h)
    have ep8 : upd H7 r (.ins C dx [(("four" : Str), .ref f5), (("one_tones" : Str), .ref p)]) p = some (.lst (z4.map V.int)) := by rw [upd_ne pr]; exact ep7
    have np' : H p = none := m6.free np
    generalize upd H7 r (.ins C dx [(("four" : Str), .ref f5), (("one_tones" : Str), .ref p)]) = H8 at m8 e8 hF8 ep8 ⊢
    clear hF6 m6
    refine ⟨rfl, fun H9 q9 s9 nq eq9 => ?_⟩
    refine ⟨_, rfl, r, C, dx, _, rfl, s9 _ _ e8, R.cls, R.n2, (by show 2 < 1000; decide), ?_⟩
    have ep3 : putF "other_tones" (.ref q9) [(("four" : Str), V.ref f5), (("one_tones" : Str), .ref p)] = wrF f5 p q9 := rfl
    rw [ep3]
    have qr : q9 ≠ r := (ne_of_none e8 nq).symm
    have pq : p ≠ q9 := ne_of_none ep8 nq
    refine q ⟨ok0, ok1, ok2, ok3⟩ _ f5 p q9 ((m8.same s9).upd (.head _)) np' (m8.free nq) ⟨⟨dx, upd_same⟩, ?_, ?_, pq⟩ ((hF8.keep (fun t xs h => same_t s9 h)).keep (fun t xs h => sqT_updI (s9 _ _ e8) h))
    · rw [upd_ne pr]
      exact s9 _ _ ep8
    · rw [upd_ne qr]
      exact eq9
theorem sc_Wire_beat : FnScope ["self", "one", "other", "noise", "forth", "back", "near", "far", "left_of_one", "left_of_other", "at_one", "at_other"] ["self", "one", "other", "noise"] (defScope m_Wire_beat) := ⟨rfl, rfl, rfl, by decide +kernel, rfl, by decide +kernel, by decide +kernel⟩
theorem ok_Wire_beat {f C : Addr} {fd : FuncData} {k : Nat} {kws : List (Str × V)} (F : FunD K "beat" "Wire.beat" (defArgs m_Wire_beat) (defBody m_Wire_beat) (defScope m_Wire_beat) [] kws f fd) (R : WrC K C) (c_left_behind : Cal P w K mg base k "left_behind" ["shares", "tones"] (spLB K)) (c_with_latest : Cal P w K mg base k "with_latest" ["tone", "tones"] (spWL K)) :
    FnOk P w K mg base (L2.CX P w) (k + 1) f fd ["self", "one", "other", "noise"] (spBeat K C) := by
  have sc := sc_Wire_beat
  refine F.ok sc (fun vs H Q E h => ?_) (fun cdv A outer s H vs Q E hr h => ?_)
  · obtain ⟨r, f, p, q, z, kz, ns, ms, W, a, b, n0, n1, rfl, _⟩ := h
    rfl
  · obtain ⟨r, f, p, q, z, kz, ns, ms, W, a, b, n0, n1, rfl, ⟨⟨dx, hins⟩, hone, hoth, hpq⟩, ⟨t0, t1, t2, t3, hf, h0, h1, h2, h3⟩, ⟨sm0, sm1, sm2, sm3, l0, l1, l2, l3⟩, hz, qq⟩ := h
    refine ⟨_, (pss_cons (ps_asg (pe_fldK K rfl (pv 0)) (pg_tup rfl (pgs_cons (pg_name (i := 4) sc.nd rfl (.inl rfl)) (pgs_cons (pg_name (i := 5) sc.nd rfl (.inl rfl)) (pgs_cons (pg_name (i := 6) sc.nd rfl (.inl rfl)) (pgs_cons (pg_name (i := 7) sc.nd rfl (.inl rfl)) pgs_nil))))))
 (pss_cons (ps_set (i := 8) sc.nd rfl (.inl rfl) (pe_callC c_left_behind hr (by rfl) (pa_cons (pv 4) (pa_cons (pe_fldK K rfl (pv 0)) pa_nil))))
 (pss_cons (ps_set (i := 9) sc.nd rfl (.inl rfl) (pe_callC c_left_behind hr (by rfl) (pa_cons (pv 5) (pa_cons (pe_fldK K rfl (pv 0)) pa_nil))))
 (pss_cons (ps_fldK K rfl (pv 0) (pe_callC c_with_latest hr (by rfl) (pa_cons (pv 1) (pa_cons (pe_fldK K rfl (pv 0)) pa_nil))))
 (pss_cons (ps_fldK K rfl (pv 0) (pe_callC c_with_latest hr (by rfl) (pa_cons (pv 2) (pa_cons (pe_fldK K rfl (pv 0)) pa_nil))))
 (pss_cons (ps_set (i := 10) sc.nd rfl (.inl rfl) (pe_op op_add (pe_op op_add (pe_op op_add (pv 2) (pv 9)) (pe_callC c_left_behind hr (by rfl) (pa_cons (pv 6) (pa_cons (pe_fldK K rfl (pv 0)) pa_nil)))) (pe_ix (ix_seqK K rfl) (pv 3) pe_int (fun _ _ => rfl))))
 (pss_cons (ps_set (i := 11) sc.nd rfl (.inl rfl) (pe_op op_add (pe_op op_add (pe_op op_add (pv 1) (pv 8)) (pe_callC c_left_behind hr (by rfl) (pa_cons (pv 7) (pa_cons (pe_fldK K rfl (pv 0)) pa_nil)))) (pe_ix (ix_seqK K rfl) (pv 3) pe_int (fun _ _ => rfl))))
 (pss_one (ps_ret (pe_tup (pa_cons (pv 10) (pa_cons (pv 11) pa_nil)))))))))))), ?_⟩
    refine ⟨_, rfl, r, C, dx, _, _, rfl, hins, R.cls, R.nf, rfl, f, _, rfl, hf, rfl, _, _, rfl, _, _, rfl, _, _, rfl, _, _, rfl, rfl, ?_⟩
    refine ⟨_, rfl, _, rfl, r, C, dx, _, _, rfl, hins, R.cls, R.n1, rfl, t0, p, _, ns, rfl, h0, SqL.of hone, sm0, by omega, fun H1 s1 => ?_⟩
    refine name_by ?_
    refine ⟨_, rfl, _, rfl, r, C, dx, _, _, rfl, s1 _ _ hins, R.cls, R.n2, rfl, t1, q, _, ms, rfl, same_t s1 h1, SqL.of (s1 _ _ hoth), sm1, by omega, fun H2 s2 => ?_⟩
    refine name_by ?_
    dsimp only
    have s12 := s1.trans s2
    refine ⟨_, rfl, _, rfl, r, C, dx, _, _, rfl, s12 _ _ hins, R.cls, R.n1, rfl, a, p, ns, rfl, SqL.of (s12 _ _ hone), fun H3 p' s3 np' ep' => ?_⟩
    have s13 := s12.trans s3
    have e3 := s13 _ _ hins
    refine ⟨_, rfl, r, C, dx, _, rfl, e3, R.cls, R.n1, (by show 3 < 1000; decide), ?_⟩
    have ep1 : putF "one_tones" (.ref p') (wrF f p q) = wrF f p' q := rfl
    rw [ep1]
    have np0 : H p' = none := s12.free np'
    have pr : p' ≠ r := (ne_of_none hins np0).symm
    have qr : q ≠ r := fun y => by rw [y, hins] at hoth; cases hoth
    have qp' : q ≠ p' := ne_of_none hoth np0
    have m4 : MvF [r] H (upd H3 r (.ins C dx (wrF f p' q))) := (MvF.of s13).upd (.head _)
    have e4 : upd H3 r (.ins C dx (wrF f p' q)) r = some (.ins C dx (wrF f p' q)) := upd_same
    have ep4 : upd H3 r (.ins C dx (wrF f p' q)) p' = some (.lst ((a :: ns.take 3).map V.int)) := by rw [upd_ne pr]; exact ep'
    have eq4 : upd H3 r (.ins C dx (wrF f p' q)) q = some (.lst (ms.map V.int)) := by rw [upd_ne qr]; exact s13 _ _ hoth
    have t2' : SqT K (upd H3 r (.ins C dx (wrF f p' q))) t2 (W.near.map V.int) := sqT_updI e3 (same_t s13 h2)
    have t3' : SqT K (upd H3 r (.ins C dx (wrF f p' q))) t3 (W.far.map V.int) := sqT_updI e3 (same_t s13 h3)
    have hz4 : SqK K kz (upd H3 r (.ins C dx (wrF f p' q))) z [.int n0, .int n1] := sqK_updI e3 (hz.same s13)
    generalize upd H3 r (.ins C dx (wrF f p' q)) = H4 at m4 e4 ep4 eq4 t2' t3' hz4 ⊢
    clear s13 s12 s1 s2 h0 h1 h2 h3 hf
    refine ⟨_, rfl, _, rfl, r, C, dx, _, _, rfl, e4, R.cls, R.n2, rfl, b, q, ms, rfl, SqL.of eq4, fun H5 q' s5 nq' eq' => ?_⟩
    have e5 := s5 _ _ e4
    refine ⟨_, rfl, r, C, dx, _, rfl, e5, R.cls, R.n2, (by show 3 < 1000; decide), ?_⟩
    have ep2 : putF "other_tones" (.ref q') (wrF f p' q) = wrF f p' q' := rfl
    rw [ep2]
    have nq0 : H q' = none := m4.free nq'
    have qr' : q' ≠ r := (ne_of_none hins nq0).symm
    have pq' : p' ≠ q' := ne_of_none ep4 nq'
    have m6 : MvF [r] H (upd H5 r (.ins C dx (wrF f p' q'))) := (m4.same s5).upd (.head _)
    have e6 : upd H5 r (.ins C dx (wrF f p' q')) r = some (.ins C dx (wrF f p' q')) := upd_same
    have ep6 : upd H5 r (.ins C dx (wrF f p' q')) p' = some (.lst ((a :: ns.take 3).map V.int)) := by rw [upd_ne pr]; exact s5 _ _ ep4
    have eq6 : upd H5 r (.ins C dx (wrF f p' q')) q' = some (.lst ((b :: ms.take 3).map V.int)) := by rw [upd_ne qr']; exact eq'
    have t2'' : SqT K (upd H5 r (.ins C dx (wrF f p' q'))) t2 (W.near.map V.int) := sqT_updI e5 (same_t s5 t2')
    have t3'' : SqT K (upd H5 r (.ins C dx (wrF f p' q'))) t3 (W.far.map V.int) := sqT_updI e5 (same_t s5 t3')
    have hz6 : SqK K kz (upd H5 r (.ins C dx (wrF f p' q'))) z [.int n0, .int n1] := sqK_updI e5 (hz4.same s5)
    generalize upd H5 r (.ins C dx (wrF f p' q')) = H6 at m6 e6 ep6 eq6 t2'' t3'' hz6 ⊢
    clear t2' t3' hz4 m4
    refine ⟨_, rfl, _, rfl, _, _, rfl, rfl, _, rfl, _, rfl, r, C, dx, _, _, rfl, e6, R.cls, R.n1, rfl, t2, p', _, _, rfl, t2'', SqL.of ep6, sm2, by omega, fun H7 s7 => ⟨_, _, rfl, rfl, _, rfl, ix_by (hz6.same s7) rfl ⟨_, _, rfl, rfl, ?_⟩⟩⟩
    refine name_by ?_
    dsimp only
    refine ⟨_, rfl, _, rfl, _, _, rfl, rfl, _, rfl, _, rfl, r, C, dx, _, _, rfl, s7 _ _ e6, R.cls, R.n2, rfl, t3, q', _, _, rfl, same_t s7 t3'', SqL.of (s7 _ _ eq6), sm3, by omega, fun H8 s8 => ⟨_, _, rfl, rfl, _, rfl, ix_by (hz6.same (s7.trans s8)) rfl ⟨_, _, rfl, rfl, ?_⟩⟩⟩
    refine name_by ?_
    dsimp only
    refine ⟨_, rfl, _, rfl, (by show 2 ≤ sizeLine; decide), fun t nt => ?_⟩
    have s9 := (s7.trans s8).trans (same_upd (o := .tup [.int (atOne W ns ms a b n0), .int (atOther W ns ms a b n1)]) nt)
    have m9 := m6.same s9
    exact qq _ t p' q' m9 (m6.free ((s7.trans s8).free nt)) np0 nq0 ⟨⟨dx, s9 _ _ e6⟩, s9 _ _ ep6, s9 _ _ eq6, pq'⟩ upd_same
theorem sc_Wire_hush : FnScope ["self"] ["self"] (defScope m_Wire_hush) := ⟨rfl, rfl, rfl, by decide +kernel, rfl, by decide +kernel, by decide +kernel⟩
theorem ok_Wire_hush {f C : Addr} {fd : FuncData} {k : Nat} (F : Fun K "hush" "Wire.hush" m_Wire_hush f fd) (R : WrC K C) (c_no_tones : Cal P w K mg base k "no_tones" [] spNT) : FnOk P w K mg base CX0 (k + 1) f fd ["self"] (spHush C) := by
  have sc := sc_Wire_hush
  refine F.ok sc (fun vs H Q E h => ?_) (fun cdv A outer s H vs Q E hr h => ?_)
  · obtain ⟨r, f, p, q, ns, ms, rfl, _⟩ := h
    rfl
  · obtain ⟨r, f, p, q, ns, ms, rfl, ⟨⟨dx, hins⟩, hone, hoth, hpq⟩, qq⟩ := h
    refine ⟨_, (pss_cons (ps_fldK K rfl (pv 0) (pe_callC0 c_no_tones hr (by rfl)))
 (pss_one (ps_fldK K rfl (pv 0) (pe_callC0 c_no_tones hr (by rfl))))), ?_⟩
    refine ⟨rfl, fun H1 p' s1 np ep' => ?_⟩
    refine ⟨_, rfl, r, C, dx, _, rfl, s1 _ _ hins, R.cls, R.n1, (by show 3 < 1000; decide), ?_⟩
    have ep1 : putF "one_tones" (.ref p') (wrF f p q) = wrF f p' q := rfl
    rw [ep1]
    have pr : p' ≠ r := (ne_of_none hins np).symm
    have m2 : MvF [r] H (upd H1 r (.ins C dx (wrF f p' q))) := (MvF.of s1).upd (.head _)
    have e2 : upd H1 r (.ins C dx (wrF f p' q)) r = some (.ins C dx (wrF f p' q)) := upd_same
    have ep2 : upd H1 r (.ins C dx (wrF f p' q)) p' = some (.lst (z4.map V.int)) := by rw [upd_ne pr]; exact ep'
    generalize upd H1 r (.ins C dx (wrF f p' q)) = H2 at m2 e2 ep2 ⊢
    refine ⟨rfl, fun H3 q' s3 nq eq' => ?_⟩
    refine ⟨_, rfl, r, C, dx, _, rfl, s3 _ _ e2, R.cls, R.n2, (by show 3 < 1000; decide), ?_⟩
    have ep3 : putF "other_tones" (.ref q') (wrF f p' q) = wrF f p' q' := rfl
    rw [ep3]
    have qr : q' ≠ r := (ne_of_none e2 nq).symm
    refine qq _ p' q' ((m2.same s3).upd (.head _)) np (m2.free nq) ⟨⟨dx, upd_same⟩, ?_, ?_, ne_of_none ep2 nq⟩
    · rw [upd_ne pr]
      exact s3 _ _ ep2
    · rw [upd_ne qr]
      exact eq'
/-! ### wires: shares told, twins, == -/
def d4 (W : W4) : PyData := .tuple [.tuple (W.forth.map PyData.int), .tuple (W.back.map PyData.int), .tuple (W.near.map PyData.int), .tuple (W.far.map PyData.int)]
theorem dp_four {f : Addr} {W : W4} {H : Hp} (h : FourAt K f W H) : Dp K H (.ref f) (d4 W) := by
  obtain ⟨t0, t1, t2, t3, h, h0, h1, h2, h3⟩ := h
  exact .tup h (.cons (.tup h0 (dpa_ints _)) (.cons (.tup h1 (dpa_ints _)) (.cons (.tup h2 (dpa_ints _)) (.cons (.tup h3 (dpa_ints _)) .nil))))
theorem shaped_four (W : W4) : SeqAt.shaped (d4 W) = true := by
  unfold SeqAt.shaped d4
  rw [Bool.and_eq_true]
  refine ⟨?_, decide_eq_true ?_⟩
  · show (PyData.canLayAll0 (W.forth.map PyData.int) && (PyData.canLayAll0 (W.back.map PyData.int) && (PyData.canLayAll0 (W.near.map PyData.int) && (PyData.canLayAll0 (W.far.map PyData.int) && true)))) = true
    rw [canLay_ints, canLay_ints, canLay_ints, canLay_ints]
    rfl
  · show max (PyData.depthAll (W.forth.map PyData.int) + 1) (max (PyData.depthAll (W.back.map PyData.int) + 1) (max (PyData.depthAll (W.near.map PyData.int) + 1) (max (PyData.depthAll (W.far.map PyData.int) + 1) 0))) + 1 ≤ 64
    rw [depth_ints, depth_ints, depth_ints, depth_ints]
    decide
def W4.same (W V : W4) : Prop := W.forth = V.forth ∧ W.back = V.back ∧ W.near = V.near ∧ W.far = V.far
instance (W V : W4) : Decidable (W.same V) := by unfold W4.same; exact inferInstance
theorem eqv_four (W V : W4) : PyData.eqv (d4 W) (d4 V) = decide (W.same V) := by
  show (PyData.eqv (.tuple (W.forth.map PyData.int)) (.tuple (V.forth.map PyData.int)) && (PyData.eqv (.tuple (W.back.map PyData.int)) (.tuple (V.back.map PyData.int)) && (PyData.eqv (.tuple (W.near.map PyData.int)) (.tuple (V.near.map PyData.int)) && (PyData.eqv (.tuple (W.far.map PyData.int)) (.tuple (V.far.map PyData.int)) && true)))) = _
  rw [eqv_tups, eqv_tups, eqv_tups, eqv_tups, Bool.and_true]
  unfold W4.same
  rw [← Bool.decide_and, ← Bool.decide_and, ← Bool.decide_and]
theorem FourAt.updI {f : Addr} {W : W4} {H : Hp} {r C dx : Addr} {fs : List (Str × V)} {o : HO} (e : H r = some (.ins C dx fs)) (h : FourAt K f W H) : FourAt K f W (upd H r o) := h.keep fun t xs h => sqT_updI e h
theorem FourAt.same {f : Addr} {W : W4} {H H' : Hp} (s : Same H H') (h : FourAt K f W H) : FourAt K f W H' := h.keep fun t xs h => same_t s h
def wSame (W V : W4) (ns ns' ms ms' : List Int) : Bool := decide (W.same V) && (decide (ns = ns') && decide (ms = ms'))
def spWEq (K : PySem.W.Frag) (C : Addr) : Sp := fun vs H Q _ => (∃ (r f p q r' f' p' q' : Addr) (ns ms ns' ms' : List Int) (W V : W4), vs = [.ref r, .ref r'] ∧ Wr C r f p q ns ms H ∧ Wr C r' f' p' q' ns' ms' H ∧ FourAt K f W H ∧ FourAt K f' V H ∧ Q (.bl (wSame W V ns ns' ms ms')) H) ∨
  ∃ (r f p q : Addr) (ns ms : List Int) (y : V) (t : Value), vs = [.ref r, y] ∧ Wr C r f p q ns ms H ∧ TyX K H y t ∧ PySem.W.kitOne K t (.ref C) = some false ∧ Q (.bl false) H
theorem sc_Wire_shares : FnScope ["self"] ["self"] (defScope m_Wire_shares) := ⟨rfl, rfl, rfl, by decide +kernel, rfl, by decide +kernel, by decide +kernel⟩
theorem ok_Wire_shares {f C : Addr} {fd : FuncData} {k : Nat} (F : Fun K "shares" "Wire.shares" m_Wire_shares f fd) (R : WrC K C) : FnOk P w K mg base CX0 (k + 1) f fd ["self"] (spWShares C) := by
  have sc := sc_Wire_shares
  refine F.ok sc (fun vs H Q E h => ?_) (fun cdv A outer s H vs Q E hr h => ?_)
  · obtain ⟨r, f, p, q, ns, ms, rfl, _⟩ := h
    rfl
  · obtain ⟨r, f, p, q, ns, ms, rfl, ⟨⟨dx, hins⟩, _⟩, qq⟩ := h
    refine ⟨_, (pss_one (ps_ret (pe_fldK K rfl (pv 0)))), ?_⟩
    exact ⟨_, rfl, r, C, dx, _, _, rfl, hins, R.cls, R.nf, rfl, qq⟩
theorem sc_Wire___eq__ : FnScope ["self", "other"] ["self", "other"] (defScope m_Wire___eq__) := ⟨rfl, rfl, rfl, by decide +kernel, rfl, by decide +kernel, by decide +kernel⟩
theorem ok_Wire___eq__ {f C : Addr} {fd : FuncData} {k : Nat} (F : Fun K "__eq__" "Wire.__eq__" m_Wire___eq__ f fd) (R : WrC K C) (n_isinstance : mg "isinstance" = none) (y_Wire : mg "Wire" = some (.ref C)) (i_Wire : IsiC K C) : FnOk P w K mg base CX0 (k + 1) f fd ["self", "other"] (spWEq K C) := by
  have sc := sc_Wire___eq__
  refine F.ok sc (fun vs H Q E h => ?_) (fun cdv A outer s H vs Q E hr h => ?_)
  · rcases h with ⟨r, f, p, q, r', f', p', q', ns, ms, ns', ms', W, V, rfl, _⟩ | ⟨r, f, p, q, ns, ms, y, t, rfl, _⟩
    · rfl
    · rfl
  · refine ⟨_, (pss_one (ps_ret (pe_and (pe_callB (call_isiK1 K rfl) (by rfl) n_isinstance (by decide +kernel) (pa_cons (pv 1) (pa_cons (pe_glob (v := .ref C) (by rfl) y_Wire rfl) pa_nil))) (pe_and (pe_cmpR (op_eqDK K rfl hr.units) (pe_fldK K rfl (pv 0)) (pe_fldK K rfl (pv 1)) (nomark _)) (pe_and (pe_cmpR (op_eqDK K rfl hr.units) (pe_fldK K rfl (pv 0)) (pe_fldK K rfl (pv 1)) (nomark _)) (pe_one (pe_cmpR (op_eqDK K rfl hr.units) (pe_fldK K rfl (pv 0)) (pe_fldK K rfl (pv 1)) (nomark _)))))))), ?_⟩
    rcases h with ⟨r, f, p, q, r', f', p', q', ns, ms, ns', ms', W, V, rfl, ⟨⟨dx, hins⟩, hone, hoth, _⟩, ⟨⟨dx', hins'⟩, hone', hoth', _⟩, hF, hF', qq⟩ | ⟨r, f, p, q, ns, ms, y, ty, rfl, ⟨⟨dx, hins⟩, _⟩, hty, hk, qq⟩
    · refine ⟨_, rfl, _, _, _, _, _, rfl, .own C, isi_own i_Wire R.cls hins', i_Wire.kt, _, rfl, iteT ?_⟩
      refine ⟨_, rfl, r, C, dx, _, _, rfl, hins, R.cls, R.nf, rfl, _, rfl, r', C, dx', _, _, rfl, hins', R.cls, R.nf, rfl, d4 W, d4 V, dp_four hF, dp_four hF', shaped_four _, shaped_four _, ?_⟩
      rw [eqv_four]
      refine ⟨_, rfl, ite2 (fun e => ?_) (fun e => ?_)⟩
      · refine ⟨_, rfl, r, C, dx, _, _, rfl, hins, R.cls, R.n1, rfl, _, rfl, r', C, dx', _, _, rfl, hins', R.cls, R.n1, rfl, dI ns, dI ns', dp_ints (SqL.of hone), dp_ints (SqL.of hone'), shaped_ints _, shaped_ints _, ?_⟩
        rw [eqv_ints]
        refine ⟨_, rfl, ite2 (fun e2 => ?_) (fun e2 => ?_)⟩
        · refine ⟨_, rfl, r, C, dx, _, _, rfl, hins, R.cls, R.n2, rfl, _, rfl, r', C, dx', _, _, rfl, hins', R.cls, R.n2, rfl, dI ms, dI ms', dp_ints (SqL.of hoth), dp_ints (SqL.of hoth'), shaped_ints _, shaped_ints _, ?_⟩
          rw [eqv_ints]
          have : wSame W V ns ns' ms ms' = decide (ms = ms') := by unfold wSame; rw [e, e2, Bool.true_and, Bool.true_and]
          rw [this] at qq
          exact qq
        · have : wSame W V ns ns' ms ms' = false := by
            unfold wSame
            rw [show decide (ns = ns') = false from Bool.eq_false_iff.mpr e2, Bool.false_and, Bool.and_false]
          rw [this] at qq
          exact qq
      · have : wSame W V ns ns' ms ms' = false := by
          unfold wSame
          rw [show decide (W.same V) = false from Bool.eq_false_iff.mpr e, Bool.false_and]
        rw [this] at qq
        exact qq
    · exact ⟨_, rfl, y, _, ty, _, false, rfl, .own C, hty, hk, _, rfl, iteF qq⟩
theorem sc_Wire_twin : FnScope ["self", "forth", "back", "near", "far", "other"] ["self"] (defScope m_Wire_twin) := ⟨rfl, rfl, rfl, by decide +kernel, rfl, by decide +kernel, by decide +kernel⟩
theorem ok_Wire_twin {f C cT : Addr} {fd : FuncData} {k : Nat} (F : Fun K "twin" "Wire.twin" m_Wire_twin f fd) (R : WrC K C) (n_list : mg "list" = none) (cnw_Wire_forth_back_near_far : CalNW P w K mg base k "Wire" C ["self", "forth", "back", "near", "far"] ["forth", "back", "near", "far"] (fun vs zs => vs ++ pickL (zs ++ []) [0, 1, 2, 3]) (spWi K C cT)) : FnOk P w K mg base CX0 (k + 2) f fd ["self"] (spWTwin K C) := by
  have sc := sc_Wire_twin
  refine F.ok sc (fun vs H Q E h => ?_) (fun cdv A outer s H vs Q E hr h => ?_)
  · obtain ⟨r, f, p, q, ns, ms, W, rfl, _⟩ := h
    rfl
  · obtain ⟨r, f, p, q, ns, ms, W, rfl, ⟨⟨dx, hins⟩, hone, hoth, hpq⟩, ⟨t0, t1, t2, t3, hf, h0, h1, h2, h3⟩, ok, l0, l1, l2, l3, qq⟩ := h
    refine ⟨_, (pss_cons (ps_asg (pe_fldK K rfl (pv 0)) (pg_tup rfl (pgs_cons (pg_name (i := 1) sc.nd rfl (.inl rfl)) (pgs_cons (pg_name (i := 2) sc.nd rfl (.inl rfl)) (pgs_cons (pg_name (i := 3) sc.nd rfl (.inl rfl)) (pgs_cons (pg_name (i := 4) sc.nd rfl (.inl rfl)) pgs_nil))))))
 (pss_cons (ps_set (i := 5) sc.nd rfl (.inl rfl) (pe_makeWF cnw_Wire_forth_back_near_far hr (by rfl) (pk_cons (pv 1) (pk_cons (pv 2) (pk_cons (pv 3) (pk_cons (pv 4) pk_nil))))))
 (pss_cons (ps_fldK K rfl (pv 5) (pe_callTy (call_listK K rfl) (by rfl) n_list (by decide +kernel) (pa_cons (pe_fldK K rfl (pv 0)) pa_nil)))
 (pss_cons (ps_fldK K rfl (pv 5) (pe_callTy (call_listK K rfl) (by rfl) n_list (by decide +kernel) (pa_cons (pe_fldK K rfl (pv 0)) pa_nil)))
 (pss_one (ps_ret (pv 5))))))), ?_⟩
    refine ⟨_, rfl, r, C, dx, _, _, rfl, hins, R.cls, R.nf, rfl, f, _, rfl, hf, rfl, _, _, rfl, _, _, rfl, _, _, rfl, _, _, rfl, rfl, ?_⟩
    refine ⟨_, rfl, _, rfl, _, rfl, _, rfl, rfl, rfl, fun x dx1 nx ndx nex => ?_⟩
    have up : Same H (upd (upd H dx1 (.own x)) x (.ins C dx1 [])) := fun a u e => by rw [upd_ne (ne_of_none e nx), upd_ne (ne_of_none e ndx)]; exact e
    refine ⟨x, dx1, t0, t1, t2, t3, false, false, false, false, W.forth, W.back, W.near, W.far, rfl, upd_same, same_t up h0, same_t up h1, same_t up h2, same_t up h3, l0, l1, l2, l3, (fun _ H4 f4 p4 q4 m4 np4 nq4 hw4 hf4 => ⟨rfl, ?_⟩), (fun no => absurd ok no)⟩
    have s2 := made_same nx ndx m4
    obtain ⟨⟨dx2, e4⟩, _, hoth4, _⟩ := hw4
    refine name_by ?_
    dsimp only
    refine ⟨_, rfl, r, C, dx, _, _, rfl, s2 _ _ hins, R.cls, R.n1, rfl, p, _, rfl, .inl (SqL.of (s2 _ _ hone)), fun p5 n5 => ?_⟩
    have s5 := same_upd (o := .lst (ns.map V.int)) n5
    have xp : p5 ≠ x := (ne_of_none e4 n5).symm
    refine ⟨_, rfl, x, C, dx2, _, rfl, s5 _ _ e4, R.cls, R.n1, (by show 3 < 1000; decide), ?_⟩
    have ep1 : putF "one_tones" (.ref p5) (wrF f4 p4 q4) = wrF f4 p5 q4 := rfl
    rw [ep1]
    have s6 : Same H (upd (upd H4 p5 (.lst (ns.map V.int))) x (.ins C dx2 (wrF f4 p5 q4))) := same_mut (s2.trans s5) nx
    have e6 : upd (upd H4 p5 (.lst (ns.map V.int))) x (.ins C dx2 (wrF f4 p5 q4)) x = some (.ins C dx2 (wrF f4 p5 q4)) := upd_same
    have g6 : upd (upd H4 p5 (.lst (ns.map V.int))) x (.ins C dx2 (wrF f4 p5 q4)) p5 = some (.lst (ns.map V.int)) := by rw [upd_ne xp, upd_same]
    have hf6 : FourAt K f4 ⟨trimS W.forth, trimS W.back, trimS W.near, trimS W.far⟩ (upd (upd H4 p5 (.lst (ns.map V.int))) x (.ins C dx2 (wrF f4 p5 q4))) := (hf4.keep (fun t xs h => same_t s5 h)).keep (fun t xs h => sqT_updI (s5 _ _ e4) h)
    have np5 : H p5 = none := s2.free n5
    generalize upd (upd H4 p5 (.lst (ns.map V.int))) x (.ins C dx2 (wrF f4 p5 q4)) = H6 at s6 e6 g6 hf6 ⊢
    clear s5 hf4 e4
    refine ⟨_, rfl, r, C, dx, _, _, rfl, s6 _ _ hins, R.cls, R.n2, rfl, q, _, rfl, .inl (SqL.of (s6 _ _ hoth)), fun p7 n7 => ?_⟩
    have s7 := same_upd (o := .lst (ms.map V.int)) n7
    have xp7 : p7 ≠ x := (ne_of_none e6 n7).symm
    refine ⟨_, rfl, x, C, dx2, _, rfl, s7 _ _ e6, R.cls, R.n2, (by show 3 < 1000; decide), ?_⟩
    have ep2 : putF "other_tones" (.ref p7) (wrF f4 p5 q4) = wrF f4 p5 p7 := rfl
    rw [ep2]
    refine ⟨_, rfl, qq _ x f4 p5 p7 (same_mut (s6.trans s7) nx) nx np5 (s6.free n7) ⟨⟨dx2, upd_same⟩, ?_, ?_, ne_of_none g6 n7⟩ ((hf6.keep (fun t xs h => same_t s7 h)).keep (fun t xs h => sqT_updI (s7 _ _ e6) h))⟩
    · rw [upd_ne xp]
      exact s7 _ _ g6
    · rw [upd_ne xp7, upd_same]
theorem sc_training_tones : FnScope ["silence", "one", "other"] [] (defScope s_training_tones) := ⟨rfl, rfl, rfl, by decide +kernel, rfl, by decide +kernel, by decide +kernel⟩
def ttOne : List Int := [1000, 0, 0, 0, 0, 0, 0, 0, 0, 0, 0, 0, 0, 0, 0, 0, 0, 0, 0, 0]
def ttOther : List Int := [0, 0, 0, 0, 0, 0, 0, 0, 0, 0, 1000, 0, 0, 0, 0, 0, 0, 0, 0, 0]
/-- twenty pairs, all new -/
def spTT : Sp := fun vs H Q _ => vs = [] ∧ ∀ (H' : Hp) (l : Addr) (ts : List Addr), Same H H' → H l = none → H' l = some (.lst (ts.map V.ref)) → ts.length = 20 → (∀ (j : Nat) (t : Addr), ts[j]? = some t → ∃ x y : Int, ttOne[j]? = some x ∧ ttOther[j]? = some y ∧ H' t = some (.tup [.int x, .int y])) → Q (.ref l) H'
theorem ok_training_tones {f : Addr} {fd : FuncData} {k : Nat} {tP5 : Tok} (F : Fun K "training_tones" "training_tones" s_training_tones f fd) (n_list : mg "list" = none) (n_zip : mg "zip" = none) (g_PROBE_BEATS : mg "PROBE_BEATS" = some (.int 5 tP5)) (c_probe : Cal P w K mg base k "probe" [] spProbe) : FnOk P w K mg base CX0 (k + 1) f fd [] spTT := by
  have sc := sc_training_tones
  refine F.ok sc (fun vs H Q E h => ?_) (fun cdv A outer s H vs Q E hr h => ?_)
  · obtain ⟨rfl, _⟩ := h
    rfl
  · obtain ⟨rfl, q⟩ := h
    refine ⟨_, (pss_cons (ps_set (i := 0) sc.nd rfl (.inl rfl) (pe_op op_rep (pe_lst (pa_cons pe_int pa_nil)) (pe_glob (v := .int 5) (by rfl) g_PROBE_BEATS ⟨_, rfl⟩)))
 (pss_cons (ps_set (i := 1) sc.nd rfl (.inl rfl) (pe_op op_cat (pe_op op_cat (pe_op op_cat (pe_callC0 c_probe hr (by rfl)) (pv 0)) (pv 0)) (pv 0)))
 (pss_cons (ps_set (i := 2) sc.nd rfl (.inl rfl) (pe_op op_cat (pe_op op_cat (pe_op op_cat (pv 0) (pv 0)) (pe_callC0 c_probe hr (by rfl))) (pv 0)))
 (pss_one (ps_ret (pe_listzip K rfl (by rfl) n_list (by rfl) n_zip (pa_cons (pv 1) (pa_cons (pv 2) pa_nil)))))))), ?_⟩
    refine ⟨(by show 1 ≤ sizeLine; decide), fun p1 n1 => ⟨p1, _, _, rfl, rfl, upd_same, by decide, by decide, (by show 1 * 5 ≤ sizeLine; decide), fun p2 n2 => ?_⟩⟩
    have s2 := (same_upd (o := .lst [.int 0]) n1).trans (same_upd (o := .lst (List.replicate (Int.toNat 5) [V.int 0]).flatten) n2)
    have e2 : upd (upd H p1 (.lst [.int 0])) p2 (.lst (List.replicate (Int.toNat 5) [V.int 0]).flatten) p2 = some (.lst (([0, 0, 0, 0, 0] : List Int).map V.int)) := upd_same
    generalize upd (upd H p1 (.lst [.int 0])) p2 (.lst (List.replicate (Int.toNat 5) [V.int 0]).flatten) = H2 at s2 e2 ⊢
    refine name_by ?_
    dsimp only
    -- one
    refine ⟨rfl, fun H3 l3 s3 n3 e3 => ?_⟩
    refine ⟨_, rfl, l3, p2, _, _, rfl, rfl, e3, s3 _ _ e2, (by show 10 ≤ sizeLine; decide), fun p4 n4 => ?_⟩
    have s4 := s3.trans (same_upd (o := .lst (([1000, 0, 0, 0, 0] : List Int).map V.int ++ ([0, 0, 0, 0, 0] : List Int).map V.int)) n4)
    refine ⟨_, rfl, p4, p2, _, _, rfl, rfl, upd_same, s4 _ _ e2, (by show 15 ≤ sizeLine; decide), fun p5 n5 => ?_⟩
    have s5 := s4.trans (same_upd (o := .lst ((([1000, 0, 0, 0, 0] : List Int).map V.int ++ ([0, 0, 0, 0, 0] : List Int).map V.int) ++ ([0, 0, 0, 0, 0] : List Int).map V.int)) n5)
    refine ⟨_, rfl, p5, p2, _, _, rfl, rfl, upd_same, s5 _ _ e2, (by show 20 ≤ sizeLine; decide), fun p6 n6 => ?_⟩
    have s6 := s5.trans (same_upd (o := .lst (((([1000, 0, 0, 0, 0] : List Int).map V.int ++ ([0, 0, 0, 0, 0] : List Int).map V.int) ++ ([0, 0, 0, 0, 0] : List Int).map V.int) ++ ([0, 0, 0, 0, 0] : List Int).map V.int)) n6)
    have e6 : upd (upd (upd H3 p4 (.lst (([1000, 0, 0, 0, 0] : List Int).map V.int ++ ([0, 0, 0, 0, 0] : List Int).map V.int))) p5 (.lst ((([1000, 0, 0, 0, 0] : List Int).map V.int ++ ([0, 0, 0, 0, 0] : List Int).map V.int) ++ ([0, 0, 0, 0, 0] : List Int).map V.int))) p6 (.lst (((([1000, 0, 0, 0, 0] : List Int).map V.int ++ ([0, 0, 0, 0, 0] : List Int).map V.int) ++ ([0, 0, 0, 0, 0] : List Int).map V.int) ++ ([0, 0, 0, 0, 0] : List Int).map V.int)) p6 = some (.lst (ttOne.map V.int)) := upd_same
    generalize upd (upd (upd H3 p4 (.lst (([1000, 0, 0, 0, 0] : List Int).map V.int ++ ([0, 0, 0, 0, 0] : List Int).map V.int))) p5 (.lst ((([1000, 0, 0, 0, 0] : List Int).map V.int ++ ([0, 0, 0, 0, 0] : List Int).map V.int) ++ ([0, 0, 0, 0, 0] : List Int).map V.int))) p6 (.lst (((([1000, 0, 0, 0, 0] : List Int).map V.int ++ ([0, 0, 0, 0, 0] : List Int).map V.int) ++ ([0, 0, 0, 0, 0] : List Int).map V.int) ++ ([0, 0, 0, 0, 0] : List Int).map V.int)) = H6 at s6 e6 ⊢
    have e26 := s6 _ _ e2
    have s06 := s2.trans s6
    clear s3 s4 s5 s6
    refine name_by ?_
    dsimp only
    -- other
    refine ⟨_, rfl, _, rfl, p2, p2, _, _, rfl, rfl, e26, e26, (by show 10 ≤ sizeLine; decide), fun p7 n7 => ?_⟩
    have s7 := same_upd (o := .lst (([0, 0, 0, 0, 0] : List Int).map V.int ++ ([0, 0, 0, 0, 0] : List Int).map V.int)) n7
    have e7 : upd H6 p7 (.lst (([0, 0, 0, 0, 0] : List Int).map V.int ++ ([0, 0, 0, 0, 0] : List Int).map V.int)) p7 = some (.lst (([0, 0, 0, 0, 0, 0, 0, 0, 0, 0] : List Int).map V.int)) := upd_same
    generalize upd H6 p7 (.lst (([0, 0, 0, 0, 0] : List Int).map V.int ++ ([0, 0, 0, 0, 0] : List Int).map V.int)) = H7 at s7 e7 ⊢
    refine ⟨rfl, fun H8 l8 s8 n8 e8 => ?_⟩
    refine ⟨p7, l8, _, _, rfl, rfl, s8 _ _ e7, e8, (by show 15 ≤ sizeLine; decide), fun p9 n9 => ?_⟩
    have s9 := (s7.trans s8).trans (same_upd (o := .lst (([0, 0, 0, 0, 0, 0, 0, 0, 0, 0] : List Int).map V.int ++ ([1000, 0, 0, 0, 0] : List Int).map V.int)) n9)
    refine ⟨_, rfl, p9, p2, _, _, rfl, rfl, upd_same, s9 _ _ e26, (by show 20 ≤ sizeLine; decide), fun p10 n10 => ?_⟩
    have s10 := s9.trans (same_upd (o := .lst ((([0, 0, 0, 0, 0, 0, 0, 0, 0, 0] : List Int).map V.int ++ ([1000, 0, 0, 0, 0] : List Int).map V.int) ++ ([0, 0, 0, 0, 0] : List Int).map V.int)) n10)
    have e10 : upd (upd H8 p9 (.lst (([0, 0, 0, 0, 0, 0, 0, 0, 0, 0] : List Int).map V.int ++ ([1000, 0, 0, 0, 0] : List Int).map V.int))) p10 (.lst ((([0, 0, 0, 0, 0, 0, 0, 0, 0, 0] : List Int).map V.int ++ ([1000, 0, 0, 0, 0] : List Int).map V.int) ++ ([0, 0, 0, 0, 0] : List Int).map V.int)) p10 = some (.lst (ttOther.map V.int)) := upd_same
    generalize upd (upd H8 p9 (.lst (([0, 0, 0, 0, 0, 0, 0, 0, 0, 0] : List Int).map V.int ++ ([1000, 0, 0, 0, 0] : List Int).map V.int))) p10 (.lst ((([0, 0, 0, 0, 0, 0, 0, 0, 0, 0] : List Int).map V.int ++ ([1000, 0, 0, 0, 0] : List Int).map V.int) ++ ([0, 0, 0, 0, 0] : List Int).map V.int)) = H10 at s10 e10 ⊢
    clear s7 s8 s9
    refine name_by ?_
    dsimp only
    refine ⟨_, rfl, _, rfl, p6, p10, _, _, rfl, SqL.of (s10 _ _ e6), SqL.of e10, rfl, (by show 20 ≤ 100000; decide), fun H' l ts s' nl el hl ht => ?_⟩
    refine q H' l ts ((s06.trans s10).trans s') ((s06.trans s10).free nl) el hl (fun j t hj => ?_)
    obtain ⟨_, _, x, y, hx, hy, e⟩ := ht j t hj
    obtain ⟨x0, hx0, rfl⟩ := getI hx
    obtain ⟨y0, hy0, rfl⟩ := getI hy
    exact ⟨x0, y0, hx0, hy0, e⟩
/-! ### beats over a wire, one behind another -/
/-- the last tones behind j beats -/
def pastL (ns as : List Int) (j : Nat) : List Int := ((as.take j).reverse ++ ns).take 4
theorem pastL_zero {ns as : List Int} (h : ns.length ≤ 4) : pastL ns as 0 = ns := by
  unfold pastL
  rw [List.take_zero]
  exact List.take_of_length_le h
theorem pastL_succ {ns as : List Int} {j : Nat} {a : Int} (h : as[j]? = some a) : pastL ns as (j + 1) = a :: (pastL ns as j).take 3 := by
  unfold pastL
  rw [take_more h, List.reverse_append, List.take_take]
  rfl
def nzA (N : Wds) (j : Nat) : Int := (N.getD j []).getD 0 0
def nzB (N : Wds) (j : Nat) : Int := (N.getD j []).getD 1 0
def hr1 (W : W4) (ns ms as bs : List Int) (N : Wds) (j : Nat) : Int := atOne W (pastL ns as j) (pastL ms bs j) (as.getD j 0) (bs.getD j 0) (nzA N j)
def hr2 (W : W4) (ns ms as bs : List Int) (N : Wds) (j : Nat) : Int := atOther W (pastL ns as j) (pastL ms bs j) (as.getD j 0) (bs.getD j 0) (nzB N j)
def hrW (W : W4) (ns ms as bs : List Int) (N : Wds) (n : Nat) : Wds := (List.range n).map fun j => [hr1 W ns ms as bs N j, hr2 W ns ms as bs N j]
theorem hrW_succ (W : W4) (ns ms as bs : List Int) (N : Wds) (n : Nat) : hrW W ns ms as bs N (n + 1) = hrW W ns ms as bs N n ++ [[hr1 W ns ms as bs N n, hr2 W ns ms as bs N n]] := by
  unfold hrW
  rw [List.range_succ, List.map_append]
  rfl
theorem hrW_len (W : W4) (ns ms as bs : List Int) (N : Wds) (n : Nat) : (hrW W ns ms as bs N n).length = n := by
  unfold hrW
  rw [List.length_map, List.length_range]
theorem hrW_at (W : W4) (ns ms as bs : List Int) (N : Wds) {n j : Nat} (h : j < n) : (hrW W ns ms as bs N n)[j]? = some [hr1 W ns ms as bs N j, hr2 W ns ms as bs N j] := by
  unfold hrW
  rw [List.getElem?_map, List.getElem?_range h]
  rfl
/-- each noise is a pair -/
def nzOk (N : Wds) : Prop := ∀ u ∈ N, ∃ a b : Int, u = [a, b]
theorem same_mvN {H H1 H2 : Hp} {r : Addr} (s : Same H H1) (m : MvF [r] H1 H2) (n : H r = none) : Same H H2 := fun a o e => m.kp a o (fun z => ne_of_none e n (in1 z)) (s a o e)
/-- tones heard of the training -/
def tr1 (W : W4) (N : Wds) : List Int := (List.range 20).map (hr1 W z4 z4 ttOne ttOther N)
def tr2 (W : W4) (N : Wds) : List Int := (List.range 20).map (hr2 W z4 z4 ttOne ttOther N)
def trSil (W : W4) (N : Wds) : List Int := (((tr1 W N).drop 5).take 5 ++ ((tr1 W N).drop 15).take 5) ++ ((tr2 W N).drop 5).take 5 ++ ((tr2 W N).drop 15).take 5
def absI (z : Int) : Int := if z < 0 then -z else z
structure TrOk (W : W4) (N : Wds) (V : W4) (m : Int) : Prop where
  forth : tapsL ((tr2 W N).take 5) = some V.forth
  back : tapsL (((tr1 W N).drop 10).take 5) = some V.back
  near : echoL ((tr1 W N).take 5) = some V.near
  far : echoL (((tr2 W N).drop 10).take 5) = some V.far
  mem : m ∈ (trSil W N).map absI
  max : ∀ y ∈ (trSil W N).map absI, y ≤ m
/-- a wire's training: its result, or BadTaps where a part of it isn't heard right, or BadNoise -/
def spTrain (K : PySem.W.Frag) (C cT cS : Addr) : Sp := fun vs H Q E => ∃ (r f p q l : Addr) (kz : Bool) (ns ms : List Int) (W : W4) (P : List WP), vs = [.ref r, .ref l] ∧ Wr C r f p q ns ms H ∧ FourAt K f W H ∧ (ok4 W.forth W.back W.near W.far ∧ trimS W.forth = W.forth ∧ trimS W.back = W.back ∧ trimS W.near = W.near ∧ trimS W.far = W.far) ∧ SqK K kz H l (refsW P) ∧ TF K (knW P) H ∧ nzOk (wsOf P) ∧ P.length ≤ 10000 ∧
  (P.length = 20 → ∀ V m, TrOk W (wsOf P) V m → ∀ (H' : Hp) (t t0 t1 t2 t3 : Addr), Same H H' → H t = none → H' t = some (.tup [.ref t0, .ref t1, .ref t2, .ref t3, .int m]) → SqT K H' t0 (V.forth.map L2.V.int) → SqT K H' t1 (V.back.map L2.V.int) → SqT K H' t2 (V.near.map L2.V.int) → SqT K H' t3 (V.far.map L2.V.int) → Q (.ref t) H') ∧
  (P.length = 20 → (tapsL ((tr2 W (wsOf P)).take 5) = none ∨ tapsL (((tr1 W (wsOf P)).drop 10).take 5) = none ∨ echoL ((tr1 W (wsOf P)).take 5) = none ∨ echoL (((tr2 W (wsOf P)).drop 10).take 5) = none) → Ref0 cT "BadTaps" H E) ∧
  (P.length ≠ 20 → Ref0 cS "BadNoise" H E)
theorem getR {ts : List Addr} {i : Nat} {x : L2.V} (h : (ts.map L2.V.ref)[i]? = some x) : ∃ t, ts[i]? = some t ∧ x = .ref t := by
  rw [List.getElem?_map] at h
  cases e : ts[i]? with
  | none => rw [e] at h; cases h
  | some t => rw [e] at h; exact ⟨t, rfl, (Option.some.inj h).symm⟩
/-- a part of a list of numbers -/
theorem cutP (ns : List Int) (i j : Nat) (h : i ≤ j) : cutV (ns.map L2.V.int) (some (i : Int)) (some (j : Int)) = ((ns.drop i).take (j - i)).map L2.V.int := by
  rw [cut_mid _ _ _ h, List.map_take, List.map_drop]
theorem tr1_len (W : W4) (N : Wds) : (tr1 W N).length = 20 := by unfold tr1; rw [List.length_map, List.length_range]
theorem tr2_len (W : W4) (N : Wds) : (tr2 W N).length = 20 := by unfold tr2; rw [List.length_map, List.length_range]
theorem sc_trained : FnScope ["wire", "noises", "line", "heard", "at_one", "at_other", "forth", "back", "near", "far", "silent", "noise", "one", "other", "here", "there", "number"] ["wire", "noises"] (defScope s_trained) := ⟨rfl, rfl, rfl, by decide +kernel, rfl, by decide +kernel, by decide +kernel⟩
theorem ok_trained {f C cT cS : Addr} {fd : FuncData} {k : Nat} {t20 : Tok} (F : Fun K "trained" "trained" s_trained f fd) (n_len : mg "len" = none) (n_zip : mg "zip" = none) (n_max : mg "max" = none) (n_abs : mg "abs" = none) (g_TRAINING_BEATS : mg "TRAINING_BEATS" = some (.int 20 t20)) (x_BadNoise : XcOk P w K mg base k "BadNoise" cS (spIni0 K cS "BadNoise"))
    (c_training_tones : Cal P w K mg base (k + 1) "training_tones" [] spTT) (c_taps_of : CalX P w K mg base (k + 1) "taps_of" ["heard"] (spTO K cT cS)) (c_echo_of : CalX P w K mg base (k + 1) "echo_of" ["heard"] (spEO K cT cS))
    (c_Wire_twin : CalM CX0 P w K mg base (k + 1) C "twin" ["self"] (spWTwin K C)) (c_Wire_hush : CalM CX0 P w K mg base (k + 1) C "hush" ["self"] (spHush C)) (cmw_Wire_beat_noise : CalMW P w K mg base (k + 1) C "beat" ["self", "one", "other", "noise"] 2 ["noise"] (fun vs zs => vs ++ pickL (zs ++ []) [0]) (spBeat K C)) :
    FnOk P w K mg base (L2.CX P w) (k + 2) f fd ["wire", "noises"] (spTrain K C cT cS) := by
  have sc := sc_trained
  refine F.okX sc (fun vs H Q E h => ?_) (fun cdv A outer s H vs Q E hr h => ?_)
  · obtain ⟨r, f, p, q, l, kz, ns, ms, W, P, rfl, _⟩ := h
    rfl
  · obtain ⟨r, f, p, q, l, kz, ns, ms, W, P, rfl, hw, hF, ⟨hok, tr0, tr1', tr2', tr3⟩, hl, hP, hnz, hpl, qq, qt, qs⟩ := h
    refine ⟨_, (pss_cons (ps_if (pt_cmpR op_ne (pe_callB (call_lenK K rfl) (by rfl) n_len PySem.boot_len (pa_cons (pv 1) pa_nil)) (pe_glob (v := .int 20) (by rfl) g_TRAINING_BEATS ⟨_, rfl⟩) (nomark _))
  (pss_one (ps_raise rfl (takes_of rfl rfl rfl rfl) (pmk_c0 x_BadNoise hr (by rfl))))
  pss_nil)
 (pss_cons (ps_set (i := 2) sc.nd rfl (.inr rfl) (pe_methC0 (pv 0) c_Wire_twin hr))
 (pss_cons (ps_expr (pe_methC0 (pv 2) c_Wire_hush hr))
 (pss_cons (ps_setLc (i := 3) (own := [("one", 12), ("other", 13), ("noise", 11)]) (g := (gTup K 2 (gCons (gTup K 2 (gCons (gName 12) (gCons (gName 13) gNil))) (gCons (gName 11) gNil)))) (by rfl) sc.nd rfl rfl (sw_true rfl rfl rfl (by decide +kernel)) (pi_zip2 K rfl (by rfl) n_zip (pa_cons (pe_callC0 c_training_tones hr (by rfl)) (pa_cons (pv 1) pa_nil))) (blkOk_by (own := [("one", 12), ("other", 13), ("noise", 11)]) (N := ["wire", "noises", "line", "heard", "at_one", "at_other", "forth", "back", "near", "far", "silent", "noise", "one", "other", "here", "there", "number"]) (sc := defScope s_trained) (by decide +kernel)) (fun _ _ _ _ _ => (pg_tup rfl (pgs_cons (pg_tup rfl (pgs_cons (pg_name (i := 12) sc.nd rfl (Or.inl rfl)) (pgs_cons (pg_name (i := 13) sc.nd rfl (Or.inl rfl)) pgs_nil))) (pgs_cons (pg_name (i := 11) sc.nd rfl (Or.inl rfl)) pgs_nil)))) (fun _ _ _ _ _ => pts_nil) (fun _ _ _ _ _ => (pe_methWF (pv 2) cmw_Wire_beat_noise hr (pa_cons (pv 12) (pa_cons (pv 13) pa_nil)) (pk_cons (pv 11) pk_nil))))
 (pss_cons (ps_setLc (i := 4) (own := [("here", 14), ("there", 15)]) (g := (gTup K 2 (gCons (gName 14) (gCons (gName 15) gNil)))) (by rfl) sc.nd rfl rfl (sw_true rfl rfl rfl (by decide +kernel)) (pi_listK K rfl (pv 3)) (blkOk_by (own := [("here", 14), ("there", 15)]) (N := ["wire", "noises", "line", "heard", "at_one", "at_other", "forth", "back", "near", "far", "silent", "noise", "one", "other", "here", "there", "number"]) (sc := defScope s_trained) (by decide +kernel)) (fun _ _ _ _ _ => (pg_tup rfl (pgs_cons (pg_name (i := 14) sc.nd rfl (Or.inl rfl)) (pgs_cons (pg_name (i := 15) sc.nd rfl (Or.inl rfl)) pgs_nil)))) (fun _ _ _ _ _ => pts_nil) (fun _ _ _ _ _ => (pv 14)))
 (pss_cons (ps_setLc (i := 5) (own := [("here", 14), ("there", 15)]) (g := (gTup K 2 (gCons (gName 14) (gCons (gName 15) gNil)))) (by rfl) sc.nd rfl rfl (sw_true rfl rfl rfl (by decide +kernel)) (pi_listK K rfl (pv 3)) (blkOk_by (own := [("here", 14), ("there", 15)]) (N := ["wire", "noises", "line", "heard", "at_one", "at_other", "forth", "back", "near", "far", "silent", "noise", "one", "other", "here", "there", "number"]) (sc := defScope s_trained) (by decide +kernel)) (fun _ _ _ _ _ => (pg_tup rfl (pgs_cons (pg_name (i := 14) sc.nd rfl (Or.inl rfl)) (pgs_cons (pg_name (i := 15) sc.nd rfl (Or.inl rfl)) pgs_nil)))) (fun _ _ _ _ _ => pts_nil) (fun _ _ _ _ _ => (pv 15)))
 (pss_cons (ps_set (i := 6) sc.nd rfl (.inl rfl) (pe_callP c_taps_of hr (passes_call (takes_of rfl rfl rfl rfl) (fun _ _ _ _ h => h)) (by rfl) (pa_cons (pe_slice (sl_listK K rfl) (pv 5) (po_some pe_int) (po_some pe_int)) pa_nil)))
 (pss_cons (ps_set (i := 7) sc.nd rfl (.inl rfl) (pe_callP c_taps_of hr (passes_call (takes_of rfl rfl rfl rfl) (fun _ _ _ _ h => h)) (by rfl) (pa_cons (pe_slice (sl_listK K rfl) (pv 4) (po_some pe_int) (po_some pe_int)) pa_nil)))
 (pss_cons (ps_set (i := 8) sc.nd rfl (.inl rfl) (pe_callP c_echo_of hr (passes_call (takes_of rfl rfl rfl rfl) (fun _ _ _ _ h => h)) (by rfl) (pa_cons (pe_slice (sl_listK K rfl) (pv 4) (po_some pe_int) (po_some pe_int)) pa_nil)))
 (pss_cons (ps_set (i := 9) sc.nd rfl (.inl rfl) (pe_callP c_echo_of hr (passes_call (takes_of rfl rfl rfl rfl) (fun _ _ _ _ h => h)) (by rfl) (pa_cons (pe_slice (sl_listK K rfl) (pv 5) (po_some pe_int) (po_some pe_int)) pa_nil)))
 (pss_cons (ps_set (i := 10) sc.nd rfl (.inl rfl) (pe_op op_cat (pe_op op_cat (pe_op op_cat (pe_slice (sl_listK K rfl) (pv 4) (po_some pe_int) (po_some pe_int)) (pe_slice (sl_listK K rfl) (pv 4) (po_some pe_int) (po_some pe_int))) (pe_slice (sl_listK K rfl) (pv 5) (po_some pe_int) (po_some pe_int))) (pe_slice (sl_listK K rfl) (pv 5) (po_some pe_int) (po_some pe_int))))
 (pss_one (ps_ret (pe_tup (pa_cons (pv 6) (pa_cons (pv 7) (pa_cons (pv 8) (pa_cons (pv 9) (pa_cons (pe_callB (cr_maxK K rfl rfl) (by rfl) n_max (by decide +kernel) (pa_cons (pe_lc (own := [("number", 16)]) (g := gName 16) (by rfl) sc.nd (pi_listK K rfl (pv 10)) (blkOk_by (own := [("number", 16)]) (N := ["wire", "noises", "line", "heard", "at_one", "at_other", "forth", "back", "near", "far", "silent", "noise", "one", "other", "here", "there", "number"]) (sc := defScope s_trained) (by decide +kernel)) (fun _ _ _ _ _ => (pg_name (i := 16) sc.nd rfl (Or.inl rfl))) (fun _ _ _ _ _ => pts_nil) (fun _ _ _ _ _ => (pe_callB call_abs (by rfl) n_abs (by decide +kernel) (pa_cons (pv 16) pa_nil)))) pa_nil)) pa_nil))))))))))))))))))), ?_⟩
    have hor : SqL K H l (refsW P) ∨ SqT K H l (refsW P) := hl.or
    refine ⟨_, rfl, l, _, rfl, hor, rfl, _, rfl, ite2 (fun e => ?_) (fun e => ?_)⟩
    · have e : P.length ≠ 20 := fun z => by
        have := ne_t e
        rw [List.length_map, z] at this
        exact this rfl
      exact mk_inner0 (fun H3 d s3 nd ed => qs e H3 d s3 nd ed)
    have h20 : P.length = 20 := by
      have := ne_f e
      rw [List.length_map] at this
      omega
    have qq := qq h20
    have qt := qt h20
    clear qs e
    obtain ⟨⟨dx, hins⟩, _⟩ := id hw
    obtain ⟨k0, k1, k2, k3⟩ := id hok
    have len4 : W.forth.length ≤ 4 ∧ W.back.length ≤ 4 ∧ W.near.length ≤ 4 ∧ W.far.length ≤ 4 := ⟨tr0 ▸ k0.1, tr1' ▸ k1.1, tr2' ▸ k2.1, tr3 ▸ k3.1⟩
    have hsm : W.Sm := ⟨fun x hx => k0.2 x (tr0.symm ▸ hx), fun x hx => k1.2 x (tr1'.symm ▸ hx), fun x hx => k2.2 x (tr2'.symm ▸ hx), fun x hx => k3.2 x (tr3.symm ▸ hx), len4⟩
    refine ⟨_, rfl, r, dx, _, rfl, hins, rfl, r, f, p, q, ns, ms, W, rfl, hw, hF, hok, by omega, by omega, by omega, by omega, fun H1 x f1 p1 q1 s1 nx np1 nq1 hw1 hF1 => ?_⟩
    rw [tr0, tr1', tr2', tr3] at hF1
    have eW : (⟨W.forth, W.back, W.near, W.far⟩ : W4) = W := rfl
    rw [eW] at hF1
    refine name_by ?_
    dsimp only
    -- hushed
    obtain ⟨⟨dx1, hins1⟩, _⟩ := id hw1
    refine ⟨_, rfl, x, dx1, _, rfl, hins1, rfl, x, f1, p1, q1, ns, ms, rfl, hw1, fun H2 p2 q2 m2 np2 nq2 hw2 => ?_⟩
    have s2 : Same H H2 := same_mvN s1 m2 nx
    have hF2 : FourAt K f1 W H2 := hF1.keep (fun t xs h => sqT_mvf m2 (fun a ha o e => by
      rw [in1 ha, hins1] at e
      cases e
      trivial) h)
    clear m2 hw1 hF1 s1
    -- the tones
    refine ⟨rfl, fun H3 l3 ts s3 nl3 el3 htl hts => ?_⟩
    have s03 := s2.trans s3
    refine ⟨_, rfl, l3, l, true, kz, _, _, rfl, SqL.of el3, hl.same s03, fun D nD => lc_it (walk_z2 (K := K) (k1 := true) (k2 := kz) (a := l3) (b := l) (xs := ts.map V.ref) (ys := refsW P) rfl) (fun i H' => ∃ (pp qq : Addr) (PP : List WP), MvF [x, D] H3 H' ∧ H' D = some (.lst (refsW PP)) ∧ TF K (knW PP) H' ∧ wsOf PP = hrW W z4 z4 ttOne ttOther (wsOf P) i ∧ Wr C x f1 pp qq (pastL z4 ttOne i) (pastL z4 ttOther i) H' ∧ FourAt K f1 W H') ?_ ?_ ?_ ?_⟩
    · refine ⟨p2, q2, [], (MvF.refl _ _).upd (.tail _ (.head _)), upd_same, tf_nil, rfl, ?_, (hF2.same s3).same (same_upd nD)⟩
      rw [pastL_zero (by decide), pastL_zero (by decide)]
      exact (tWr C x f1 p2 q2 z4 z4).loc _ _ (fun a ha o e => same_upd nD a o (s3 a o e)) hw2
    · rintro i H' _ ⟨pp, qq', PP, m, _⟩
      have keep : ∀ a o, a ≠ x → H3 a = some o → H' a = some o := fun a o hax e => m.kp a o (fun z => by
        rcases List.mem_cons.mp z with z | z
        · exact hax z
        · rw [in1 z, nD] at e
          cases e) e
      obtain ⟨⟨dx2, hins2⟩, _⟩ := id hw2
      refine ⟨SqL.of (keep _ _ (fun z => by rw [z, s3 _ _ hins2] at el3; cases el3) el3), ?_⟩
      have hl3 := hl.same s03
      have same' : Same H H' := fun a o e => keep a o (fun z => ne_of_none e nx z) (s03 a o e)
      exact hl.same same'
    · rintro i v H' H'' hi ⟨pp, qq', PP, m, eD, tP, ew, hw', hF'⟩ ⟨T, xv, yv, rfl, nT, rfl, hx0, hy0⟩
      obtain ⟨pr, hpr, rfl⟩ := refsW_at hy0
      obtain ⟨t, ht, rfl⟩ := getR hx0
      obtain ⟨xa, xb, hxa, hxb, et⟩ := hts i t ht
      obtain ⟨n0, n1, en⟩ := hnz pr.2 (List.mem_of_getElem? (wsOf_at hpr))
      obtain ⟨⟨dx2, hins2⟩, _⟩ := id hw2
      have xD : D ≠ x := fun z => by rw [z, s3 _ _ hins2] at nD; cases nD
      have keep : ∀ a o, a ≠ x → H3 a = some o → H' a = some o := fun a o hax e => m.kp a o (fun z => by
        rcases List.mem_cons.mp z with z | z
        · exact hax z
        · rw [in1 z, nD] at e
          cases e) e
      have same' : Same H H' := fun a o e => keep a o (fun z => ne_of_none e nx z) (s03 a o e)
      have et' := keep _ _ (fun z => by rw [z, s3 _ _ hins2] at et; cases et) et
      have hpn : SqT K H' pr.1 [.int n0, .int n1] := by
        have := same_t same' (tf_at hP hpr)
        rw [en] at this
        exact this
      have s4 := same_upd (o := .tup [.ref t, .ref pr.1]) nT
      refine ⟨T, _, rfl, SqT.of upd_same, rfl, _, _, rfl, ⟨t, _, rfl, SqT.of (s4 _ _ et'), rfl, _, _, rfl, _, _, rfl, rfl, _, _, rfl, rfl, rfl, tYes_by (iteT ?_)⟩⟩
      have m4 : MvF [x, D] H3 (upd H' T (.tup [.ref t, .ref pr.1])) := m.same s4
      have eD4 := s4 _ _ eD
      have tP4 := tP.same s4
      have hw4 := (tWr C x f1 pp qq' (pastL z4 ttOne i) (pastL z4 ttOther i)).loc _ _ (fun a ha o e => s4 a o e) hw'
      have hF4 := hF'.same s4
      have hpn4 := same_t s4 hpn
      generalize upd H' T (.tup [.ref t, .ref pr.1]) = H4 at m4 eD4 tP4 hw4 hF4 hpn4 ⊢
      clear s4 hw' hF' hpn et' same' m eD tP
      obtain ⟨⟨dx4, hins4⟩, _⟩ := id hw4
      refine ⟨_, rfl, x, dx4, _, rfl, hins4, rfl, _, rfl, _, rfl, _, rfl, rfl, rfl, x, f1, pp, qq', pr.1, false, _, _, W, xa, xb, n0, n1, rfl, hw4, hF4, hsm, hpn4, fun H5 t5 p5 q5 m5 nt5 np5 nq5 hw5 et5 => ?_⟩
      have m45 : MvF [x, D] H3 H5 := m4.trans (m5.wide (fun a ha => by rw [in1 ha]; exact .head _))
      have eD5 := m5.kp _ _ (fun z => xD (in1 z)) eD4
      have tP5 := tP4.mvf m5 (fun a ha o e => by
        rw [in1 ha, hins4] at e
        cases e
        trivial)
      refine ⟨_, eD5, ?_, p5, q5, PP ++ [(t5, [atOne W (pastL z4 ttOne i) (pastL z4 ttOther i) xa xb n0, atOther W (pastL z4 ttOne i) (pastL z4 ttOther i) xa xb n1])], m45.upd (.tail _ (.head _)), ?_, ?_, ?_, ?_, ?_⟩
      · rw [List.length_map, ← wsOf_len, ew, hrW_len]
        have : ts.length = 20 := htl
        have := (List.getElem?_eq_some_iff.mp ht).1
        exact Nat.lt_of_lt_of_le (show i < 20 by omega) (by decide)
      · rw [upd_same]
        unfold refsW
        rw [List.map_append]
        rfl
      · refine TF.mvf (F := [D]) ((MvF.refl [D] H5).upd (.head _)) (fun a ha o e => ?_) (tf_snoc tP5 (SqT.of et5))
        rw [in1 ha, eD5] at e
        cases e
        trivial
      · rw [wsOf_app, ew, hrW_succ]
        have e1 : ttOne.getD i 0 = xa := by rw [List.getD_eq_getElem?_getD, hxa]; rfl
        have e2 : ttOther.getD i 0 = xb := by rw [List.getD_eq_getElem?_getD, hxb]; rfl
        have e3 : nzA (wsOf P) i = n0 ∧ nzB (wsOf P) i = n1 := by
          have eu : (wsOf P).getD i [] = [n0, n1] := by rw [List.getD_eq_getElem?_getD, wsOf_at hpr, en]; rfl
          unfold nzA nzB
          rw [eu]
          exact ⟨rfl, rfl⟩
        unfold hr1 hr2
        rw [e1, e2, e3.1, e3.2]
        rfl
      · rw [pastL_succ hxa, pastL_succ hxb]
        refine (tWr C x f1 p5 q5 _ _).loc _ _ (fun a ha o e => ?_) hw5
        rw [upd_ne (fun z => ?_)]
        · exact e
        rw [z] at ha
        rcases List.mem_cons.mp ha with h | h
        · exact xD h
        rcases List.mem_cons.mp h with h | h
        · rw [← h, eD4] at np5
          cases np5
        · rw [← in1 h, eD4] at nq5
          cases nq5
      · refine (hF4.keep (fun t xs h => sqT_mvf m5 (fun a ha o e => ?_) h)).keep (fun t xs h => sqT_mvf (F := [D]) ((MvF.refl [D] H5).upd (.head _)) (fun a ha o e => ?_) h)
        · rw [in1 ha, hins4] at e
          cases e
          trivial
        · rw [in1 ha, eD5] at e
          cases e
          trivial
    · rintro H4 ⟨pp, qq', PP, m, eD, tP, ew, hw', hF'⟩
      have en20 : min (ts.map V.ref).length (refsW P).length = 20 := by rw [List.length_map, List.length_map, htl, h20]; rfl
      rw [en20] at ew
      have hPP : PP.length = 20 := by rw [← wsOf_len, ew, hrW_len]
      have s4 : Same H H4 := fun a o e => m.kp a o (fun z => by
        rcases List.mem_cons.mp z with z | z
        · exact ne_of_none e nx z
        · exact ne_of_none e (s03.free nD) (in1 z)) (s03 a o e)
      clear m hw' hF' hw2 hF2 hts
      have at1 : ∀ i : Nat, i < 20 → ∃ t, PP[i]? = some (t, [hr1 W z4 z4 ttOne ttOther (wsOf P) i, hr2 W z4 z4 ttOne ttOther (wsOf P) i]) := fun i hi => by
        obtain ⟨pr, hpr⟩ := getElem?_ex (show i < PP.length by omega)
        have h1 := wsOf_at hpr
        rw [ew, hrW_at _ _ _ _ _ _ hi] at h1
        exact ⟨pr.1, by rw [hpr, Option.some.inj h1]⟩
      refine name_by ?_
      dsimp only
      -- what one heard
      refine ⟨_, rfl, D, rfl, ⟨_, SqL.of eD⟩, fun D1 nD1 => lc_list (K := K) (a := D) (xs := refsW PP) (fun i H' => Same H4 H' ∧ H' D1 = some (.lst (((tr1 W (wsOf P)).take i).map V.int))) ⟨same_upd nD1, upd_same⟩ (fun i H' _ h => SqL.of (h.1 _ _ eD)) ?_ ?_⟩
      · rintro i x H5 hx ⟨s5, eD1⟩
        obtain ⟨pr, hpr, rfl⟩ := refsW_at hx
        have hi : i < 20 := by
          have := (List.getElem?_eq_some_iff.mp hpr).1
          omega
        obtain ⟨t, ht⟩ := at1 i hi
        rw [ht] at hpr
        cases Option.some.inj hpr
        have htt := (tP.same s5) (twW _) (List.mem_map.mpr ⟨_, List.mem_of_getElem? ht, rfl⟩)
        refine ⟨t, _, rfl, htt, rfl, _, _, rfl, _, _, rfl, rfl, rfl, tYes_by (iteT ?_)⟩
        refine ⟨_, rfl, _, eD1, ?_, same_mut s5 nD1, ?_⟩
        · rw [List.length_map, List.length_take]
          exact sz4l (by omega)
        · have hz : (tr1 W (wsOf P))[i]? = some (hr1 W z4 z4 ttOne ttOther (wsOf P) i) := by unfold tr1; rw [List.getElem?_map, List.getElem?_range hi]; rfl
          rw [upd_same, take_more hz, List.map_append]
          rfl
      rintro H5 ⟨s5, eD1⟩
      have e1l : (refsW PP).length = 20 := by rw [List.length_map, hPP]
      rw [e1l, List.take_of_length_le (by rw [tr1_len]; exact Nat.le_refl _)] at eD1
      have eD5 := s5 _ _ eD
      have tP5 := tP.same s5
      have s05 := s4.trans s5
      refine name_by ?_
      dsimp only
      -- what the other one heard
      refine ⟨_, rfl, D, rfl, ⟨_, SqL.of eD5⟩, fun D2 nD2 => lc_list (K := K) (a := D) (xs := refsW PP) (fun i H' => Same H5 H' ∧ H' D2 = some (.lst (((tr2 W (wsOf P)).take i).map V.int))) ⟨same_upd nD2, upd_same⟩ (fun i H' _ h => SqL.of (h.1 _ _ eD5)) ?_ ?_⟩
      · rintro i x H6 hx ⟨s6, eD2⟩
        obtain ⟨pr, hpr, rfl⟩ := refsW_at hx
        have hi : i < 20 := by
          have := (List.getElem?_eq_some_iff.mp hpr).1
          omega
        obtain ⟨t, ht⟩ := at1 i hi
        rw [ht] at hpr
        cases Option.some.inj hpr
        have htt := (tP5.same s6) (twW _) (List.mem_map.mpr ⟨_, List.mem_of_getElem? ht, rfl⟩)
        refine ⟨t, _, rfl, htt, rfl, _, _, rfl, _, _, rfl, rfl, rfl, tYes_by (iteT ?_)⟩
        refine ⟨_, rfl, _, eD2, ?_, same_mut s6 nD2, ?_⟩
        · rw [List.length_map, List.length_take]
          exact sz4l (by omega)
        · have hz : (tr2 W (wsOf P))[i]? = some (hr2 W z4 z4 ttOne ttOther (wsOf P) i) := by unfold tr2; rw [List.getElem?_map, List.getElem?_range hi]; rfl
          rw [upd_same, take_more hz, List.map_append]
          rfl
      rintro H6 ⟨s6, eD2⟩
      rw [e1l, List.take_of_length_le (by rw [tr2_len]; exact Nat.le_refl _)] at eD2
      have eD1 := s6 _ _ eD1
      have s06 := s05.trans s6
      clear eD5 tP5 eD tP at1 s05 s5 s6 el3
      have l1 := tr1_len W (wsOf P)
      have l2 := tr2_len W (wsOf P)
      have hR : TrOk W (wsOf P) = TrOk W (wsOf P) := rfl
      obtain ⟨N, hN⟩ : ∃ N, N = wsOf P := ⟨_, rfl⟩
      rw [← hN] at eD1 eD2 qq qt l1 l2
      refine name_by ?_
      dsimp only
      have len5 : ∀ (ns : List Int) (i : Nat), ns.length = 20 → i + 5 ≤ 20 → ((ns.drop i).take 5).length = 5 := fun ns i h1 h2 => by rw [List.length_take, List.length_drop, h1]; omega
      -- forth
      refine ⟨_, rfl, 0, rfl, 5, rfl, D2, _, rfl, SqL.of eD2, fun p7 n7 => ?_⟩
      have c7 : cutV ((tr2 W N).map V.int) (some 0) (some 5) = ((tr2 W N).take 5).map V.int := by
        have := cutP (tr2 W N) 0 5 (by decide)
        rw [List.drop_zero] at this
        exact this
      rw [c7]
      have s7 := s06.trans (same_upd (o := .lst (((tr2 W N).take 5).map V.int)) n7)
      have eD1 := same_upd (o := .lst (((tr2 W N).take 5).map V.int)) n7 _ _ eD1
      have eD2 := same_upd (o := .lst (((tr2 W N).take 5).map V.int)) n7 _ _ eD2
      have lt5 : ((tr2 W N).take 5).length = 5 := by rw [List.length_take, l2]; rfl
      refine ⟨p7, _, rfl, SqL.of upd_same, by rw [lt5]; decide, (fun _ w0 ew0 H8 t0 s8 ht0 => ?_), (fun _ en H8 d s8 nd ed => qt (.inl en) H8 d (s7.trans s8) (s7.free nd) ed), (fun no => absurd lt5 no)⟩
      have s08 := s7.trans s8
      have eD1 := s8 _ _ eD1
      have eD2 := s8 _ _ eD2
      clear s7 s8 s06 c7
      refine name_by ?_
      dsimp only
      -- back
      refine ⟨_, rfl, 10, rfl, 15, rfl, D1, _, rfl, SqL.of eD1, fun p9 n9 => ?_⟩
      rw [show cutV ((tr1 W N).map V.int) (some 10) (some 15) = (((tr1 W N).drop 10).take 5).map V.int from cutP (tr1 W N) 10 15 (by decide)]
      have u9 := same_upd (o := .lst ((((tr1 W N).drop 10).take 5).map V.int)) n9
      have s9 := s08.trans u9
      have eD1 := u9 _ _ eD1
      have eD2 := u9 _ _ eD2
      have ht0 := same_t u9 ht0
      refine ⟨p9, _, rfl, SqL.of upd_same, by rw [len5 _ _ l1 (by decide)]; decide, (fun _ w1 ew1 H10 t1 s10 ht1 => ?_), (fun _ en H8 d s8 nd ed => qt (.inr (.inl en)) H8 d (s9.trans s8) (s9.free nd) ed), (fun no => absurd (len5 _ _ l1 (by decide)) no)⟩
      have s010 := s9.trans s10
      have eD1 := s10 _ _ eD1
      have eD2 := s10 _ _ eD2
      have ht0 := same_t s10 ht0
      clear s9 s10 u9 s08
      refine name_by ?_
      dsimp only
      -- near
      refine ⟨_, rfl, 0, rfl, 5, rfl, D1, _, rfl, SqL.of eD1, fun p11 n11 => ?_⟩
      have c11 : cutV ((tr1 W N).map V.int) (some 0) (some 5) = ((tr1 W N).take 5).map V.int := by
        have := cutP (tr1 W N) 0 5 (by decide)
        rw [List.drop_zero] at this
        exact this
      rw [c11]
      have u11 := same_upd (o := .lst (((tr1 W N).take 5).map V.int)) n11
      have s11 := s010.trans u11
      have eD1 := u11 _ _ eD1
      have eD2 := u11 _ _ eD2
      have ht0 := same_t u11 ht0
      have ht1 := same_t u11 ht1
      have lt51 : ((tr1 W N).take 5).length = 5 := by rw [List.length_take, l1]; rfl
      refine ⟨p11, _, rfl, SqL.of upd_same, by rw [lt51]; decide, (fun _ w2 ew2 H12 t2 s12 ht2 => ?_), (fun _ en H8 d s8 nd ed => qt (.inr (.inr (.inl en))) H8 d (s11.trans s8) (s11.free nd) ed), (fun no => absurd lt51 no)⟩
      have s012 := s11.trans s12
      have eD1 := s12 _ _ eD1
      have eD2 := s12 _ _ eD2
      have ht0 := same_t s12 ht0
      have ht1 := same_t s12 ht1
      clear s11 s12 u11 s010 c11
      refine name_by ?_
      dsimp only
      -- far
      refine ⟨_, rfl, 10, rfl, 15, rfl, D2, _, rfl, SqL.of eD2, fun p13 n13 => ?_⟩
      rw [show cutV ((tr2 W N).map V.int) (some 10) (some 15) = (((tr2 W N).drop 10).take 5).map V.int from cutP (tr2 W N) 10 15 (by decide)]
      have u13 := same_upd (o := .lst ((((tr2 W N).drop 10).take 5).map V.int)) n13
      have s13 := s012.trans u13
      have eD1 := u13 _ _ eD1
      have eD2 := u13 _ _ eD2
      have ht0 := same_t u13 ht0
      have ht1 := same_t u13 ht1
      have ht2 := same_t u13 ht2
      refine ⟨p13, _, rfl, SqL.of upd_same, by rw [len5 _ _ l2 (by decide)]; decide, (fun _ w3 ew3 H14 t3 s14 ht3 => ?_), (fun _ en H8 d s8 nd ed => qt (.inr (.inr (.inr en))) H8 d (s13.trans s8) (s13.free nd) ed), (fun no => absurd (len5 _ _ l2 (by decide)) no)⟩
      have s014 := s13.trans s14
      have eD1 := s14 _ _ eD1
      have eD2 := s14 _ _ eD2
      have ht0 := same_t s14 ht0
      have ht1 := same_t s14 ht1
      have ht2 := same_t s14 ht2
      clear s13 s14 u13 s012
      refine name_by ?_
      dsimp only
      -- silence
      have cut := fun (ns : List Int) (i : Nat) => cutP ns i (i + 5) (Nat.le_add_right _ _)
      refine ⟨_, rfl, 5, rfl, 10, rfl, D1, _, rfl, SqL.of eD1, fun pa na => ?_⟩
      rw [show cutV ((tr1 W N).map V.int) (some 5) (some 10) = (((tr1 W N).drop 5).take 5).map V.int from cutP (tr1 W N) 5 10 (by decide)]
      have ua := same_upd (o := .lst ((((tr1 W N).drop 5).take 5).map V.int)) na
      have ea : upd H14 pa (.lst ((((tr1 W N).drop 5).take 5).map V.int)) pa = some (.lst ((((tr1 W N).drop 5).take 5).map V.int)) := upd_same
      generalize upd H14 pa (.lst ((((tr1 W N).drop 5).take 5).map V.int)) = Ha at ua ea ⊢
      refine ⟨_, rfl, 15, rfl, 20, rfl, D1, _, rfl, SqL.of (ua _ _ eD1), fun pb nb => ?_⟩
      rw [show cutV ((tr1 W N).map V.int) (some 15) (some 20) = (((tr1 W N).drop 15).take 5).map V.int from cutP (tr1 W N) 15 20 (by decide)]
      have ub := same_upd (o := .lst ((((tr1 W N).drop 15).take 5).map V.int)) nb
      have eb : upd Ha pb (.lst ((((tr1 W N).drop 15).take 5).map V.int)) pb = some (.lst ((((tr1 W N).drop 15).take 5).map V.int)) := upd_same
      have eab := ub _ _ ea
      generalize upd Ha pb (.lst ((((tr1 W N).drop 15).take 5).map V.int)) = Hb at ub eb eab ⊢
      have la1 := len5 (tr1 W N) 5 l1 (by decide)
      have la2 := len5 (tr1 W N) 15 l1 (by decide)
      have la3 := len5 (tr2 W N) 5 l2 (by decide)
      have la4 := len5 (tr2 W N) 15 l2 (by decide)
      refine ⟨pa, pb, _, _, rfl, rfl, eab, eb, by rw [List.length_map, List.length_map, la1, la2]; decide, fun pc nc => ?_⟩
      rw [← List.map_append]
      have uc := same_upd (o := .lst ((((tr1 W N).drop 5).take 5 ++ ((tr1 W N).drop 15).take 5).map V.int)) nc
      have ec : upd Hb pc (.lst ((((tr1 W N).drop 5).take 5 ++ ((tr1 W N).drop 15).take 5).map V.int)) pc = some (.lst ((((tr1 W N).drop 5).take 5 ++ ((tr1 W N).drop 15).take 5).map V.int)) := upd_same
      generalize upd Hb pc (.lst ((((tr1 W N).drop 5).take 5 ++ ((tr1 W N).drop 15).take 5).map V.int)) = Hc at uc ec ⊢
      have sc' := (ua.trans ub).trans uc
      refine ⟨_, rfl, 5, rfl, 10, rfl, D2, _, rfl, SqL.of (sc' _ _ eD2), fun pd nd => ?_⟩
      rw [show cutV ((tr2 W N).map V.int) (some 5) (some 10) = (((tr2 W N).drop 5).take 5).map V.int from cutP (tr2 W N) 5 10 (by decide)]
      have ud := same_upd (o := .lst ((((tr2 W N).drop 5).take 5).map V.int)) nd
      have ed : upd Hc pd (.lst ((((tr2 W N).drop 5).take 5).map V.int)) pd = some (.lst ((((tr2 W N).drop 5).take 5).map V.int)) := upd_same
      have ecd := ud _ _ ec
      generalize upd Hc pd (.lst ((((tr2 W N).drop 5).take 5).map V.int)) = Hd at ud ed ecd ⊢
      refine ⟨pc, pd, _, _, rfl, rfl, ecd, ed, by rw [List.length_map, List.length_map, List.length_append, la1, la2, la3]; decide, fun pe ne => ?_⟩
      rw [← List.map_append]
      have ue := same_upd (o := .lst (((((tr1 W N).drop 5).take 5 ++ ((tr1 W N).drop 15).take 5) ++ ((tr2 W N).drop 5).take 5).map V.int)) ne
      have ee : upd Hd pe (.lst (((((tr1 W N).drop 5).take 5 ++ ((tr1 W N).drop 15).take 5) ++ ((tr2 W N).drop 5).take 5).map V.int)) pe = some (.lst (((((tr1 W N).drop 5).take 5 ++ ((tr1 W N).drop 15).take 5) ++ ((tr2 W N).drop 5).take 5).map V.int)) := upd_same
      generalize upd Hd pe (.lst (((((tr1 W N).drop 5).take 5 ++ ((tr1 W N).drop 15).take 5) ++ ((tr2 W N).drop 5).take 5).map V.int)) = He at ue ee ⊢
      have se := (sc'.trans ud).trans ue
      refine ⟨_, rfl, 15, rfl, 20, rfl, D2, _, rfl, SqL.of (se _ _ eD2), fun pf nf => ?_⟩
      rw [show cutV ((tr2 W N).map V.int) (some 15) (some 20) = (((tr2 W N).drop 15).take 5).map V.int from cutP (tr2 W N) 15 20 (by decide)]
      have uf := same_upd (o := .lst ((((tr2 W N).drop 15).take 5).map V.int)) nf
      have ef : upd He pf (.lst ((((tr2 W N).drop 15).take 5).map V.int)) pf = some (.lst ((((tr2 W N).drop 15).take 5).map V.int)) := upd_same
      have eef := uf _ _ ee
      generalize upd He pf (.lst ((((tr2 W N).drop 15).take 5).map V.int)) = Hf at uf ef eef ⊢
      refine ⟨pe, pf, _, _, rfl, rfl, eef, ef, by rw [List.length_map, List.length_map, List.length_append, List.length_append, la1, la2, la3, la4]; decide, fun pg ng => ?_⟩
      rw [← List.map_append]
      have hsl : (trSil W N).length = 20 := by unfold trSil; rw [List.length_append, List.length_append, List.length_append, la1, la2, la3, la4]
      have es : ((((tr1 W N).drop 5).take 5 ++ ((tr1 W N).drop 15).take 5) ++ ((tr2 W N).drop 5).take 5) ++ ((tr2 W N).drop 15).take 5 = trSil W N := rfl
      rw [es]
      have ug := same_upd (o := .lst ((trSil W N).map V.int)) ng
      have eg : upd Hf pg (.lst ((trSil W N).map V.int)) pg = some (.lst ((trSil W N).map V.int)) := upd_same
      generalize upd Hf pg (.lst ((trSil W N).map V.int)) = Hg at ug eg ⊢
      have sg := (se.trans uf).trans ug
      have s014g := s014.trans sg
      have ht0 := same_t sg ht0
      have ht1 := same_t sg ht1
      have ht2 := same_t sg ht2
      have ht3 := same_t sg ht3
      clear ua ub uc ud ue uf ug sc' se sg ea eb ec ed ee ef eab ecd eef eD1 eD2
      refine name_by ?_
      dsimp only
      refine ⟨_, rfl, _, rfl, _, rfl, _, rfl, _, rfl, pg, rfl, ⟨_, SqL.of eg⟩, fun D3 nD3 => lc_list (K := K) (a := pg) (xs := (trSil W N).map V.int) (fun i H' => Same Hg H' ∧ H' D3 = some (.lst ((((trSil W N).take i).map absI).map V.int))) ⟨same_upd nD3, upd_same⟩ (fun i H' _ h => SqL.of (h.1 _ _ eg)) ?_ ?_⟩
      · rintro i x Hh hx ⟨sh, eD3⟩
        obtain ⟨z, hz, rfl⟩ := getI hx
        have hi : i < 20 := by
          have := (List.getElem?_eq_some_iff.mp hz).1
          omega
        refine ⟨rfl, tYes_by (iteT ?_)⟩
        refine ⟨_, rfl, z, rfl, _, eD3, ?_, same_mut sh nD3, ?_⟩
        · rw [List.length_map, List.length_map, List.length_take]
          exact sz4l (by omega)
        · rw [upd_same, take_more hz, List.map_append, List.map_append]
          rfl
      rintro Hh ⟨sh, eD3⟩
      rw [List.length_map, List.take_length] at eD3
      refine ⟨D3, (trSil W N).map absI, rfl, SqL.of eD3, by rw [List.length_map, hsl]; decide, fun m hm1 hm2 => ?_⟩
      refine ⟨(by show 5 ≤ sizeLine; decide), fun t nt => ?_⟩
      have sh' := same_upd (o := .tup [.ref t0, .ref t1, .ref t2, .ref t3, .int m]) nt
      have sz := sh.trans sh'
      exact qq ⟨w0, w1, w2, w3⟩ m ⟨ew0, ew1, ew2, ew3, hm1, hm2⟩ _ t t0 t1 t2 t3 (s014g.trans sz) ((s014g.trans sh).free nt) upd_same (same_t sz ht0) (same_t sz ht1) (same_t sz ht2) (same_t sz ht3)
/-! ### what is heard of a training -/
theorem dotQ (ws : List Int) (a b c d : Int) : dotL ws [a, b, c, d] = ws.getD 0 0 * a + ws.getD 1 0 * b + ws.getD 2 0 * c + ws.getD 3 0 * d := by
  match ws with
  | [] => simp [dotL]
  | [x] => simp [dotL]
  | [x, y] => simp [dotL]
  | [x, y, z] => simp [dotL]; omega
  | x :: y :: z :: u :: r => simp [dotL]; omega
def c1W (W : W4) : Nat → Int
  | 0 => W.near.getD 0 0
  | 1 => W.near.getD 1 0
  | 2 => W.near.getD 2 0
  | 3 => W.near.getD 3 0
  | 4 => 0
  | 5 => 0
  | 6 => 0
  | 7 => 0
  | 8 => 0
  | 9 => 0
  | 10 => 1
  | 11 => W.back.getD 0 0
  | 12 => W.back.getD 1 0
  | 13 => W.back.getD 2 0
  | 14 => W.back.getD 3 0
  | 15 => 0
  | 16 => 0
  | 17 => 0
  | 18 => 0
  | 19 => 0
  | _ => 0
def c2W (W : W4) : Nat → Int
  | 0 => 1
  | 1 => W.forth.getD 0 0
  | 2 => W.forth.getD 1 0
  | 3 => W.forth.getD 2 0
  | 4 => W.forth.getD 3 0
  | 5 => 0
  | 6 => 0
  | 7 => 0
  | 8 => 0
  | 9 => 0
  | 10 => W.far.getD 0 0
  | 11 => W.far.getD 1 0
  | 12 => W.far.getD 2 0
  | 13 => W.far.getD 3 0
  | 14 => 0
  | 15 => 0
  | 16 => 0
  | 17 => 0
  | 18 => 0
  | 19 => 0
  | _ => 0
theorem hr1_is (W : W4) (N : Wds) : ∀ j : Nat, j < 20 → hr1 W z4 z4 ttOne ttOther N j = 1000 * c1W W j + nzA N j
  | 0, _ => by
    show (0 : Int) + dotL W.back [0, 0, 0, 0] + dotL W.near [1000, 0, 0, 0] + nzA N 0 = 1000 * (W.near.getD 0 0) + nzA N 0
    rw [dotQ, dotQ]
    omega
  | 1, _ => by
    show (0 : Int) + dotL W.back [0, 0, 0, 0] + dotL W.near [0, 1000, 0, 0] + nzA N 1 = 1000 * (W.near.getD 1 0) + nzA N 1
    rw [dotQ, dotQ]
    omega
  | 2, _ => by
    show (0 : Int) + dotL W.back [0, 0, 0, 0] + dotL W.near [0, 0, 1000, 0] + nzA N 2 = 1000 * (W.near.getD 2 0) + nzA N 2
    rw [dotQ, dotQ]
    omega
  | 3, _ => by
    show (0 : Int) + dotL W.back [0, 0, 0, 0] + dotL W.near [0, 0, 0, 1000] + nzA N 3 = 1000 * (W.near.getD 3 0) + nzA N 3
    rw [dotQ, dotQ]
    omega
  | 4, _ => by
    show (0 : Int) + dotL W.back [0, 0, 0, 0] + dotL W.near [0, 0, 0, 0] + nzA N 4 = 1000 * (0) + nzA N 4
    rw [dotQ, dotQ]
    omega
  | 5, _ => by
    show (0 : Int) + dotL W.back [0, 0, 0, 0] + dotL W.near [0, 0, 0, 0] + nzA N 5 = 1000 * (0) + nzA N 5
    rw [dotQ, dotQ]
    omega
  | 6, _ => by
    show (0 : Int) + dotL W.back [0, 0, 0, 0] + dotL W.near [0, 0, 0, 0] + nzA N 6 = 1000 * (0) + nzA N 6
    rw [dotQ, dotQ]
    omega
  | 7, _ => by
    show (0 : Int) + dotL W.back [0, 0, 0, 0] + dotL W.near [0, 0, 0, 0] + nzA N 7 = 1000 * (0) + nzA N 7
    rw [dotQ, dotQ]
    omega
  | 8, _ => by
    show (0 : Int) + dotL W.back [0, 0, 0, 0] + dotL W.near [0, 0, 0, 0] + nzA N 8 = 1000 * (0) + nzA N 8
    rw [dotQ, dotQ]
    omega
  | 9, _ => by
    show (0 : Int) + dotL W.back [0, 0, 0, 0] + dotL W.near [0, 0, 0, 0] + nzA N 9 = 1000 * (0) + nzA N 9
    rw [dotQ, dotQ]
    omega
  | 10, _ => by
    show (1000 : Int) + dotL W.back [0, 0, 0, 0] + dotL W.near [0, 0, 0, 0] + nzA N 10 = 1000 * (1) + nzA N 10
    rw [dotQ, dotQ]
    omega
  | 11, _ => by
    show (0 : Int) + dotL W.back [1000, 0, 0, 0] + dotL W.near [0, 0, 0, 0] + nzA N 11 = 1000 * (W.back.getD 0 0) + nzA N 11
    rw [dotQ, dotQ]
    omega
  | 12, _ => by
    show (0 : Int) + dotL W.back [0, 1000, 0, 0] + dotL W.near [0, 0, 0, 0] + nzA N 12 = 1000 * (W.back.getD 1 0) + nzA N 12
    rw [dotQ, dotQ]
    omega
  | 13, _ => by
    show (0 : Int) + dotL W.back [0, 0, 1000, 0] + dotL W.near [0, 0, 0, 0] + nzA N 13 = 1000 * (W.back.getD 2 0) + nzA N 13
    rw [dotQ, dotQ]
    omega
  | 14, _ => by
    show (0 : Int) + dotL W.back [0, 0, 0, 1000] + dotL W.near [0, 0, 0, 0] + nzA N 14 = 1000 * (W.back.getD 3 0) + nzA N 14
    rw [dotQ, dotQ]
    omega
  | 15, _ => by
    show (0 : Int) + dotL W.back [0, 0, 0, 0] + dotL W.near [0, 0, 0, 0] + nzA N 15 = 1000 * (0) + nzA N 15
    rw [dotQ, dotQ]
    omega
  | 16, _ => by
    show (0 : Int) + dotL W.back [0, 0, 0, 0] + dotL W.near [0, 0, 0, 0] + nzA N 16 = 1000 * (0) + nzA N 16
    rw [dotQ, dotQ]
    omega
  | 17, _ => by
    show (0 : Int) + dotL W.back [0, 0, 0, 0] + dotL W.near [0, 0, 0, 0] + nzA N 17 = 1000 * (0) + nzA N 17
    rw [dotQ, dotQ]
    omega
  | 18, _ => by
    show (0 : Int) + dotL W.back [0, 0, 0, 0] + dotL W.near [0, 0, 0, 0] + nzA N 18 = 1000 * (0) + nzA N 18
    rw [dotQ, dotQ]
    omega
  | 19, _ => by
    show (0 : Int) + dotL W.back [0, 0, 0, 0] + dotL W.near [0, 0, 0, 0] + nzA N 19 = 1000 * (0) + nzA N 19
    rw [dotQ, dotQ]
    omega
  | j + 20, h => absurd h (by omega)
theorem hr2_is (W : W4) (N : Wds) : ∀ j : Nat, j < 20 → hr2 W z4 z4 ttOne ttOther N j = 1000 * c2W W j + nzB N j
  | 0, _ => by
    show (1000 : Int) + dotL W.forth [0, 0, 0, 0] + dotL W.far [0, 0, 0, 0] + nzB N 0 = 1000 * (1) + nzB N 0
    rw [dotQ, dotQ]
    omega
  | 1, _ => by
    show (0 : Int) + dotL W.forth [1000, 0, 0, 0] + dotL W.far [0, 0, 0, 0] + nzB N 1 = 1000 * (W.forth.getD 0 0) + nzB N 1
    rw [dotQ, dotQ]
    omega
  | 2, _ => by
    show (0 : Int) + dotL W.forth [0, 1000, 0, 0] + dotL W.far [0, 0, 0, 0] + nzB N 2 = 1000 * (W.forth.getD 1 0) + nzB N 2
    rw [dotQ, dotQ]
    omega
  | 3, _ => by
    show (0 : Int) + dotL W.forth [0, 0, 1000, 0] + dotL W.far [0, 0, 0, 0] + nzB N 3 = 1000 * (W.forth.getD 2 0) + nzB N 3
    rw [dotQ, dotQ]
    omega
  | 4, _ => by
    show (0 : Int) + dotL W.forth [0, 0, 0, 1000] + dotL W.far [0, 0, 0, 0] + nzB N 4 = 1000 * (W.forth.getD 3 0) + nzB N 4
    rw [dotQ, dotQ]
    omega
  | 5, _ => by
    show (0 : Int) + dotL W.forth [0, 0, 0, 0] + dotL W.far [0, 0, 0, 0] + nzB N 5 = 1000 * (0) + nzB N 5
    rw [dotQ, dotQ]
    omega
  | 6, _ => by
    show (0 : Int) + dotL W.forth [0, 0, 0, 0] + dotL W.far [0, 0, 0, 0] + nzB N 6 = 1000 * (0) + nzB N 6
    rw [dotQ, dotQ]
    omega
  | 7, _ => by
    show (0 : Int) + dotL W.forth [0, 0, 0, 0] + dotL W.far [0, 0, 0, 0] + nzB N 7 = 1000 * (0) + nzB N 7
    rw [dotQ, dotQ]
    omega
  | 8, _ => by
    show (0 : Int) + dotL W.forth [0, 0, 0, 0] + dotL W.far [0, 0, 0, 0] + nzB N 8 = 1000 * (0) + nzB N 8
    rw [dotQ, dotQ]
    omega
  | 9, _ => by
    show (0 : Int) + dotL W.forth [0, 0, 0, 0] + dotL W.far [0, 0, 0, 0] + nzB N 9 = 1000 * (0) + nzB N 9
    rw [dotQ, dotQ]
    omega
  | 10, _ => by
    show (0 : Int) + dotL W.forth [0, 0, 0, 0] + dotL W.far [1000, 0, 0, 0] + nzB N 10 = 1000 * (W.far.getD 0 0) + nzB N 10
    rw [dotQ, dotQ]
    omega
  | 11, _ => by
    show (0 : Int) + dotL W.forth [0, 0, 0, 0] + dotL W.far [0, 1000, 0, 0] + nzB N 11 = 1000 * (W.far.getD 1 0) + nzB N 11
    rw [dotQ, dotQ]
    omega
  | 12, _ => by
    show (0 : Int) + dotL W.forth [0, 0, 0, 0] + dotL W.far [0, 0, 1000, 0] + nzB N 12 = 1000 * (W.far.getD 2 0) + nzB N 12
    rw [dotQ, dotQ]
    omega
  | 13, _ => by
    show (0 : Int) + dotL W.forth [0, 0, 0, 0] + dotL W.far [0, 0, 0, 1000] + nzB N 13 = 1000 * (W.far.getD 3 0) + nzB N 13
    rw [dotQ, dotQ]
    omega
  | 14, _ => by
    show (0 : Int) + dotL W.forth [0, 0, 0, 0] + dotL W.far [0, 0, 0, 0] + nzB N 14 = 1000 * (0) + nzB N 14
    rw [dotQ, dotQ]
    omega
  | 15, _ => by
    show (0 : Int) + dotL W.forth [0, 0, 0, 0] + dotL W.far [0, 0, 0, 0] + nzB N 15 = 1000 * (0) + nzB N 15
    rw [dotQ, dotQ]
    omega
  | 16, _ => by
    show (0 : Int) + dotL W.forth [0, 0, 0, 0] + dotL W.far [0, 0, 0, 0] + nzB N 16 = 1000 * (0) + nzB N 16
    rw [dotQ, dotQ]
    omega
  | 17, _ => by
    show (0 : Int) + dotL W.forth [0, 0, 0, 0] + dotL W.far [0, 0, 0, 0] + nzB N 17 = 1000 * (0) + nzB N 17
    rw [dotQ, dotQ]
    omega
  | 18, _ => by
    show (0 : Int) + dotL W.forth [0, 0, 0, 0] + dotL W.far [0, 0, 0, 0] + nzB N 18 = 1000 * (0) + nzB N 18
    rw [dotQ, dotQ]
    omega
  | 19, _ => by
    show (0 : Int) + dotL W.forth [0, 0, 0, 0] + dotL W.far [0, 0, 0, 0] + nzB N 19 = 1000 * (0) + nzB N 19
    rw [dotQ, dotQ]
    omega
  | j + 20, h => absurd h (by omega)
theorem tr1_at (W : W4) (N : Wds) {j : Nat} (h : j < 20) : (tr1 W N)[j]? = some (1000 * c1W W j + nzA N j) := by
  unfold tr1
  rw [List.getElem?_map, List.getElem?_range h]
  exact congrArg some (hr1_is W N j h)
theorem tr2_at (W : W4) (N : Wds) {j : Nat} (h : j < 20) : (tr2 W N)[j]? = some (1000 * c2W W j + nzB N j) := by
  unfold tr2
  rw [List.getElem?_map, List.getElem?_range h]
  exact congrArg some (hr2_is W N j h)
theorem five_is {l : List Int} {i : Nat} {a b c d e : Int} (h0 : l[i]? = some a) (h1 : l[i + 1]? = some b) (h2 : l[i + 2]? = some c) (h3 : l[i + 3]? = some d) (h4 : l[i + 4]? = some e) : (l.drop i).take 5 = [a, b, c, d, e] := by
  have step : ∀ (k n : Nat) (x : Int), l[k]? = some x → (l.drop k).take (n + 1) = x :: (l.drop (k + 1)).take n := fun k n x hx => by
    obtain ⟨hl, rfl⟩ := List.getElem?_eq_some_iff.mp hx
    rw [List.drop_eq_getElem_cons hl, List.take_succ_cons]
  rw [step i 4 a h0, step (i + 1) 3 b h1, step (i + 1 + 1) 2 c h2, step (i + 1 + 1 + 1) 1 d h3, step (i + 1 + 1 + 1 + 1) 0 e h4, List.take_zero]
theorem tr1_five (W : W4) (N : Wds) {i : Nat} (h : i + 5 ≤ 20) : ((tr1 W N).drop i).take 5 = [1000 * c1W W i + nzA N i, 1000 * c1W W (i + 1) + nzA N (i + 1), 1000 * c1W W (i + 2) + nzA N (i + 2), 1000 * c1W W (i + 3) + nzA N (i + 3), 1000 * c1W W (i + 4) + nzA N (i + 4)] :=
  five_is (tr1_at W N (by omega)) (tr1_at W N (by omega)) (tr1_at W N (by omega)) (tr1_at W N (by omega)) (tr1_at W N (by omega))
theorem tr2_five (W : W4) (N : Wds) {i : Nat} (h : i + 5 ≤ 20) : ((tr2 W N).drop i).take 5 = [1000 * c2W W i + nzB N i, 1000 * c2W W (i + 1) + nzB N (i + 1), 1000 * c2W W (i + 2) + nzB N (i + 2), 1000 * c2W W (i + 3) + nzB N (i + 3), 1000 * c2W W (i + 4) + nzB N (i + 4)] :=
  five_is (tr2_at W N (by omega)) (tr2_at W N (by omega)) (tr2_at W N (by omega)) (tr2_at W N (by omega)) (tr2_at W N (by omega))
theorem pad4 (ws : List Int) (h : ws.length ≤ 4) : trimS [ws.getD 0 0, ws.getD 1 0, ws.getD 2 0, ws.getD 3 0] = trimS ws := by
  match ws, h with
  | [], _ => rfl
  | [a], _ =>
    show trimS (([a] ++ [0]) ++ [0] ++ [0]) = _
    rw [trimS_zero, trimS_zero, trimS_zero]
  | [a, b], _ =>
    show trimS (([a, b] ++ [0]) ++ [0]) = _
    rw [trimS_zero, trimS_zero]
  | [a, b, c], _ =>
    show trimS ([a, b, c] ++ [0]) = _
    rw [trimS_zero]
  | [a, b, c, d], _ => rfl
  | a :: b :: c :: d :: e :: r, h => exact absurd h (by simp)
def quiet (N : Wds) : Prop := ∀ j, j < 20 → -500 < nzA N j ∧ nzA N j < 500 ∧ -500 < nzB N j ∧ nzB N j < 500
theorem share_in {c n : Int} (h1 : -500 < n) (h2 : n < 500) : shareI (1000 * c + n) = c := by unfold shareI; omega
structure TrimW (W : W4) : Prop where
  sm : W.Sm
  t0 : trimS W.forth = W.forth
  t1 : trimS W.back = W.back
  t2 : trimS W.near = W.near
  t3 : trimS W.far = W.far
theorem taps_of_five {x0 x1 x2 x3 x4 : Int} {ws : List Int} (h0 : shareI x0 = 1) (h1 : shareI x1 = ws.getD 0 0) (h2 : shareI x2 = ws.getD 1 0) (h3 : shareI x3 = ws.getD 2 0) (h4 : shareI x4 = ws.getD 3 0) (hl : ws.length ≤ 4) (hs : ∀ x ∈ ws, small x) (ht : trimS ws = ws) : tapsL [x0, x1, x2, x3, x4] = some ws := by
  have e : trimS (([x0, x1, x2, x3, x4].map shareI).drop 1) = ws := by
    show trimS [shareI x1, shareI x2, shareI x3, shareI x4] = ws
    rw [h1, h2, h3, h4, pad4 ws hl, ht]
  unfold tapsL
  rw [e, if_pos ⟨h0, hl, hs⟩]
theorem echo_of_five {x0 x1 x2 x3 x4 : Int} {ws : List Int} (h0 : shareI x0 = ws.getD 0 0) (h1 : shareI x1 = ws.getD 1 0) (h2 : shareI x2 = ws.getD 2 0) (h3 : shareI x3 = ws.getD 3 0) (h4 : shareI x4 = 0) (hl : ws.length ≤ 4) (hs : ∀ x ∈ ws, small x) (ht : trimS ws = ws) : echoL [x0, x1, x2, x3, x4] = some ws := by
  have e : trimS (([x0, x1, x2, x3, x4].map shareI).take 4) = ws := by
    show trimS [shareI x0, shareI x1, shareI x2, shareI x3] = ws
    rw [h0, h1, h2, h3, pad4 ws hl, ht]
  unfold echoL
  rw [e, if_pos ⟨h4, hl, hs⟩]
theorem tr_good {W : W4} {N : Wds} (hW : TrimW W) (hq : quiet N) : tapsL ((tr2 W N).take 5) = some W.forth ∧ tapsL (((tr1 W N).drop 10).take 5) = some W.back ∧ echoL ((tr1 W N).take 5) = some W.near ∧ echoL (((tr2 W N).drop 10).take 5) = some W.far := by
  obtain ⟨s0, s1, s2, s3, l0, l1, l2, l3⟩ := hW.sm
  have a : ∀ j, j < 20 → shareI (1000 * c1W W j + nzA N j) = c1W W j := fun j h => share_in (hq j h).1 (hq j h).2.1
  have b : ∀ j, j < 20 → shareI (1000 * c2W W j + nzB N j) = c2W W j := fun j h => share_in (hq j h).2.2.1 (hq j h).2.2.2
  have d0 : (tr2 W N).take 5 = ((tr2 W N).drop 0).take 5 := rfl
  have d1 : (tr1 W N).take 5 = ((tr1 W N).drop 0).take 5 := rfl
  rw [d0, d1, tr1_five W N (i := 0) (by decide), tr1_five W N (i := 10) (by decide), tr2_five W N (i := 0) (by decide), tr2_five W N (i := 10) (by decide)]
  exact ⟨taps_of_five (b 0 (by decide)) (b 1 (by decide)) (b 2 (by decide)) (b 3 (by decide)) (b 4 (by decide)) l0 s0 hW.t0,
    taps_of_five (a 10 (by decide)) (a 11 (by decide)) (a 12 (by decide)) (a 13 (by decide)) (a 14 (by decide)) l1 s1 hW.t1,
    echo_of_five (a 0 (by decide)) (a 1 (by decide)) (a 2 (by decide)) (a 3 (by decide)) (a 4 (by decide)) l2 s2 hW.t2,
    echo_of_five (b 10 (by decide)) (b 11 (by decide)) (b 12 (by decide)) (b 13 (by decide)) (b 14 (by decide)) l3 s3 hW.t3⟩
/-- a number far off -/
def farOff (g : Int) : Prop := (8700 ≤ g ∧ g ≤ 9900) ∨ (-9300 ≤ g ∧ g ≤ -8501)
theorem share_off {c g : Int} (hc : small c) (h : farOff g) : ¬ small (shareI (1000 * c + g)) ∧ shareI (1000 * c + g) ≠ 1 ∧ shareI (1000 * c + g) ≠ 0 := by
  unfold small at hc
  unfold small shareI
  rcases h with h | h <;> omega
theorem small0 : small 0 := by unfold small; omega
theorem small1 : small 1 := by unfold small; omega
theorem taps_bad {x0 x1 x2 x3 x4 : Int} (h : shareI x0 ≠ 1 ∨ ¬ small (shareI x1) ∨ ¬ small (shareI x2) ∨ ¬ small (shareI x3) ∨ ¬ small (shareI x4)) : tapsL [x0, x1, x2, x3, x4] = none := by
  refine if_neg (fun c => ?_)
  obtain ⟨c0, _, c2⟩ := c
  have c0 : shareI x0 = 1 := c0
  have c2 := trimS_all (G := small) c2 small0
  have e : ([x0, x1, x2, x3, x4].map shareI).drop 1 = [shareI x1, shareI x2, shareI x3, shareI x4] := rfl
  rw [e] at c2
  rcases h with h | h | h | h | h
  · exact h c0
  · exact h (c2 _ (by simp))
  · exact h (c2 _ (by simp))
  · exact h (c2 _ (by simp))
  · exact h (c2 _ (by simp))
theorem echo_bad {x0 x1 x2 x3 x4 : Int} (h : shareI x4 ≠ 0 ∨ ¬ small (shareI x0) ∨ ¬ small (shareI x1) ∨ ¬ small (shareI x2) ∨ ¬ small (shareI x3)) : echoL [x0, x1, x2, x3, x4] = none := by
  refine if_neg (fun c => ?_)
  obtain ⟨c0, _, c2⟩ := c
  have c0 : shareI x4 = 0 := c0
  have c2 := trimS_all (G := small) c2 small0
  have e : ([x0, x1, x2, x3, x4].map shareI).take 4 = [shareI x0, shareI x1, shareI x2, shareI x3] := rfl
  rw [e] at c2
  rcases h with h | h | h | h | h
  · exact h c0
  · exact h (c2 _ (by simp))
  · exact h (c2 _ (by simp))
  · exact h (c2 _ (by simp))
  · exact h (c2 _ (by simp))
theorem getD_small {ws : List Int} (h : ∀ x ∈ ws, small x) (k : Nat) : small (ws.getD k 0) := by
  rw [List.getD_eq_getElem?_getD]
  cases e : ws[k]? with
  | none => exact small0
  | some x => exact h x (List.mem_of_getElem? e)
theorem tr_bad {W : W4} {N : Wds} (hW : W.Sm) {i : Nat} (hi : i < 5 ∨ (10 ≤ i ∧ i < 15)) (h : farOff (nzA N i) ∨ farOff (nzB N i)) : tapsL ((tr2 W N).take 5) = none ∨ tapsL (((tr1 W N).drop 10).take 5) = none ∨ echoL ((tr1 W N).take 5) = none ∨ echoL (((tr2 W N).drop 10).take 5) = none := by
  obtain ⟨s0, s1, s2, s3, l0, l1, l2, l3⟩ := hW
  have d0 : (tr2 W N).take 5 = ((tr2 W N).drop 0).take 5 := rfl
  have d1 : (tr1 W N).take 5 = ((tr1 W N).drop 0).take 5 := rfl
  rw [d0, d1, tr1_five W N (i := 0) (by decide), tr1_five W N (i := 10) (by decide), tr2_five W N (i := 0) (by decide), tr2_five W N (i := 10) (by decide)]
  have g0 := getD_small s0
  have g1 := getD_small s1
  have g2 := getD_small s2
  have g3 := getD_small s3
  have cases10 : i = 0 ∨ i = 1 ∨ i = 2 ∨ i = 3 ∨ i = 4 ∨ i = 10 ∨ i = 11 ∨ i = 12 ∨ i = 13 ∨ i = 14 := by omega
  rcases cases10 with rfl | rfl | rfl | rfl | rfl | rfl | rfl | rfl | rfl | rfl
  · rcases h with h | h
    · exact .inr (.inr (.inl (echo_bad (.inr (.inl (share_off (c := c1W W 0) (g2 0) h).1)))))
    · exact .inl (taps_bad (.inl (share_off (c := c2W W 0) small1 h).2.1))
  · rcases h with h | h
    · exact .inr (.inr (.inl (echo_bad (.inr (.inr (.inl (share_off (c := c1W W 1) (g2 1) h).1))))))
    · exact .inl (taps_bad (.inr (.inl (share_off (c := c2W W 1) (g0 0) h).1)))
  · rcases h with h | h
    · exact .inr (.inr (.inl (echo_bad (.inr (.inr (.inr (.inl (share_off (c := c1W W 2) (g2 2) h).1)))))))
    · exact .inl (taps_bad (.inr (.inr (.inl (share_off (c := c2W W 2) (g0 1) h).1))))
  · rcases h with h | h
    · exact .inr (.inr (.inl (echo_bad (.inr (.inr (.inr (.inr (share_off (c := c1W W 3) (g2 3) h).1)))))))
    · exact .inl (taps_bad (.inr (.inr (.inr (.inl (share_off (c := c2W W 3) (g0 2) h).1)))))
  · rcases h with h | h
    · exact .inr (.inr (.inl (echo_bad (.inl (share_off (c := c1W W 4) small0 h).2.2))))
    · exact .inl (taps_bad (.inr (.inr (.inr (.inr (share_off (c := c2W W 4) (g0 3) h).1)))))
  · rcases h with h | h
    · exact .inr (.inl (taps_bad (.inl (share_off (c := c1W W 10) small1 h).2.1)))
    · exact .inr (.inr (.inr (echo_bad (.inr (.inl (share_off (c := c2W W 10) (g3 0) h).1)))))
  · rcases h with h | h
    · exact .inr (.inl (taps_bad (.inr (.inl (share_off (c := c1W W 11) (g1 0) h).1))))
    · exact .inr (.inr (.inr (echo_bad (.inr (.inr (.inl (share_off (c := c2W W 11) (g3 1) h).1))))))
  · rcases h with h | h
    · exact .inr (.inl (taps_bad (.inr (.inr (.inl (share_off (c := c1W W 12) (g1 1) h).1)))))
    · exact .inr (.inr (.inr (echo_bad (.inr (.inr (.inr (.inl (share_off (c := c2W W 12) (g3 2) h).1)))))))
  · rcases h with h | h
    · exact .inr (.inl (taps_bad (.inr (.inr (.inr (.inl (share_off (c := c1W W 13) (g1 2) h).1))))))
    · exact .inr (.inr (.inr (echo_bad (.inr (.inr (.inr (.inr (share_off (c := c2W W 13) (g3 3) h).1)))))))
  · rcases h with h | h
    · exact .inr (.inl (taps_bad (.inr (.inr (.inr (.inr (share_off (c := c1W W 14) (g1 3) h).1))))))
    · exact .inr (.inr (.inr (echo_bad (.inl (share_off (c := c2W W 14) small0 h).2.2))))
/-! ### the law's own wire: a dict with ways (a list of four tuples of shares), one and other -/
abbrev wsT (w a b : V) : List (Key × V) := [(.inr "ways", w), (.inr "one", a), (.inr "other", b)]
section
variable {w' a b v : L2.V} {H : Hp} {d : Addr}
theorem ws_ow : ¬ (Str.ofString "one") = Str.ofString "ways" := by decide
theorem ws_tw : ¬ (Str.ofString "other") = Str.ofString "ways" := by decide
theorem ws_wo : ¬ (Str.ofString "ways") = Str.ofString "one" := by decide
theorem ws_to : ¬ (Str.ofString "other") = Str.ofString "one" := by decide
theorem ws_wt : ¬ (Str.ofString "ways") = Str.ofString "other" := by decide
theorem ws_ot : ¬ (Str.ofString "one") = Str.ofString "other" := by decide
theorem ns_wo : ¬ (Sum.inr "ways" : Key) = .inr "one" := by decide
theorem ns_wt : ¬ (Sum.inr "ways" : Key) = .inr "other" := by decide
theorem ns_ot : ¬ (Sum.inr "one" : Key) = .inr "other" := by decide
theorem get_ways (hd : H d = some (.dK (wsT w' a b))) : DGet H d (.str "ways") (some w') := by
  have g := DGet.k (k := .inr "ways") hd
  rwa [valV_pos rfl] at g
theorem get_wone (hd : H d = some (.dK (wsT w' a b))) : DGet H d (.str "one") (some a) := by
  have g := DGet.k (k := .inr "one") hd
  rwa [valV_neg ns_wo, valV_pos rfl] at g
theorem get_wother (hd : H d = some (.dK (wsT w' a b))) : DGet H d (.str "other") (some b) := by
  have g := DGet.k (k := .inr "other") hd
  rwa [valV_neg ns_wt, valV_neg ns_ot, valV_pos rfl] at g
theorem put_wone (hd : H d = some (.dK (wsT w' a b))) : DPut H d (.str "one") v (upd H d (.dK (wsT w' v b))) := by
  have g := DPut.k (k := .inr "one") (v := v) hd (by show 3 < sizeLine; decide)
  have ep : putK (wsT w' a b) (.inr "one") v = wsT w' v b := by
    unfold putK
    rw [valV_any, valV_neg ns_wo, valV_pos rfl]
    simp [ws_wo, ws_to]
  rwa [ep] at g
theorem put_wother (hd : H d = some (.dK (wsT w' a b))) : DPut H d (.str "other") v (upd H d (.dK (wsT w' a v))) := by
  have g := DPut.k (k := .inr "other") (v := v) hd (by show 3 < sizeLine; decide)
  have ep : putK (wsT w' a b) (.inr "other") v = wsT w' a v := by
    unfold putK
    rw [valV_any, valV_neg ns_wt, valV_neg ns_ot, valV_pos rfl]
    simp [ws_wt, ws_ot]
  rwa [ep] at g
theorem wsT_merge : mergeK [] (wsT w' a b) = wsT w' a b := by
  unfold mergeK
  simp [putK, ws_ow, ws_tw, ws_wo, ws_to, ws_wt, ws_ot]
end
theorem Hw.newMT {L : List (Addr × List L2.V)} {T0 : List (Addr × Str)} {Ts : List Th} {b : Addr × Addr} {N : Th} {H H' : Hp} (h : Hw K L T0 (tB b :: Ts) H) (m : Mv b.1 H H') (g : Bag b H') (hn : N.P H') (hf : ∀ a ∈ N.ft, H a = none) : Hw K L T0 (N :: tB b :: Ts) H' :=
  h.opNew (T := tB b) (T' := tB b) (N := N) 0 rfl (mvf_bag m g) (fun a ha => .inl ha) g (fun a ha => .inl ha) hn (fun a ha => ⟨hf a ha, fun z => by
    have := hf a ha
    rcases List.mem_cons.mp z with z | z
    · exact (h.bag.al.1) (z ▸ this)
    · exact (h.bag.al.2) (in1 z ▸ this)⟩)
/-- the law's wire's dict d, its list of ways wl, its tones -/
structure Wsd (K : PySem.W.Frag) (d wl la lb : Addr) (P : List WP) (ns ms : List Int) (H : Hp) : Prop where
  dic : H d = some (.dK (wsT (.ref wl) (.ref la) (.ref lb)))
  ways : H wl = some (.lst (refsW P))
  one : H la = some (.lst (ns.map L2.V.int))
  oth : H lb = some (.lst (ms.map L2.V.int))
theorem in4w {a p q r s : Addr} (h : a ∈ [p, q, r, s]) : a = p ∨ a = q ∨ a = r ∨ a = s := by simpa using h
def tWs (K : PySem.W.Frag) (d wl la lb : Addr) (P : List WP) (ns ms : List Int) : Th := ⟨[d, wl, la, lb], Wsd K d wl la lb P ns ms, fun H H' k h => ⟨k _ (.head _) _ h.dic, k _ (.tail _ (.head _)) _ h.ways, k _ (.tail _ (.tail _ (.head _))) _ h.one, k _ (.tail _ (.tail _ (.tail _ (.head _)))) _ h.oth⟩, fun H h a ha => by
  rcases in4w ha with rfl | rfl | rfl | rfl
  · exact ⟨_, h.dic, trivial⟩
  · exact ⟨_, h.ways, trivial⟩
  · exact ⟨_, h.one, trivial⟩
  · exact ⟨_, h.oth, trivial⟩⟩
instance (d wl la lb : Addr) (P : List WP) (ns ms : List Int) : NT (tWs K d wl la lb P ns ms) := ⟨fun H h a ha o e => by
  have h : Wsd K d wl la lb P ns ms H := h
  rcases in4w ha with rfl | rfl | rfl | rfl
  · rw [h.dic] at e
    cases e
    trivial
  · rw [h.ways] at e
    cases e
    trivial
  · rw [h.one] at e
    cases e
    trivial
  · rw [h.oth] at e
    cases e
    trivial⟩
def okWay (p : WP) : Prop := p.2.length ≤ 4 ∧ ∀ x ∈ p.2, small x
def spWNew (K : PySem.W.Frag) : Sp := fun vs H Q _ => ∃ (b : Addr × Addr), vs = [.ref b.1] ∧ Bag b H ∧ ∀ (H' : Hp) (d wl la lb : Addr) (P : List WP), Mv b.1 H H' → Bag b H' → (∀ a ∈ [d, wl, la, lb], H a = none) → Wsd K d wl la lb P [] [] H' → TF K (knW P) H' → P.length = 4 → (∀ p ∈ P, okWay p) → Q (.ref d) H'
def spWMade (K : PySem.W.Frag) (C : Addr) : Sp := fun vs H Q _ => ∃ (d wl la lb : Addr) (p0 p1 p2 p3 : WP) (ns ms : List Int), vs = [.ref d] ∧ Wsd K d wl la lb [p0, p1, p2, p3] ns ms H ∧ TF K (knW [p0, p1, p2, p3]) H ∧ okWay p0 ∧ okWay p1 ∧ okWay p2 ∧ okWay p3 ∧
  ∀ (H' : Hp) (r f p q : Addr), Same H H' → H r = none → H p = none → H q = none → Wr C r f p q z4 z4 H' → FourAt K f ⟨trimS p0.2, trimS p1.2, trimS p2.2, trimS p3.2⟩ H' → Q (.ref r) H'
theorem okWay.sh {p : WP} (h : okWay p) : okSh p.2 := ⟨Nat.le_trans (trimS_len _) h.1, fun x hx => h.2 x (trimS_sub hx)⟩
theorem sc__law_tried : FnScope ["_law_act", "e"] ["_law_act"] (defScope s__law_tried) := ⟨rfl, rfl, rfl, by decide +kernel, rfl, by decide +kernel, by decide +kernel⟩
/-- what the law's tried makes of a lambda: told, or refused by one of two classes, whose word it tells -/
def TTried2 (C1 : Addr) (nm1 : Str) (C2 : Addr) (nm2 : Str) : (XK → Hp → VK → Prop) → Hp → VK → Prop := fun tl H Q =>
  tl (fun cls d H' => ∃ (dd : Addr) (fs : List (Str × V)), d = some dd ∧ H' dd = some (.xd fs) ∧ ((cls = .ref C1 ∧ fs.lookup ("word" : Str) = some (.str nm1) ∧ ∀ p, H' p = none → Q (.ref p) (upd H' p (.tup [.str "refused", .str nm1]))) ∨ (cls = .ref C2 ∧ fs.lookup ("word" : Str) = some (.str nm2) ∧ ∀ p, H' p = none → Q (.ref p) (upd H' p (.tup [.str "refused", .str nm2]))))) H
    (fun v H1 => ([V.str "told", v] : List V).length ≤ sizeLine ∧ ∀ p, H1 p = none → Q (.ref p) (upd H1 p (.tup [.str "told", v])))
theorem tried2_gives {X : Cx} {g c1 c2 cL cM : Addr} {cdg : Value} {q nm1 nm2 : Str} (x1 : XfC X.K c1) (no1 : PySem.W.findIn X.K (.ref c1) "word" = some none) (x2 : XfC X.K c2) (no2 : PySem.W.findIn X.K (.ref c2) "word" = some none) (gL : X.mg "LineError" = some (.ref cL)) (gM : X.mg "Missing" = some (.ref cM))
    (nl1 : PySem.W.exmOne X.K (.ref c1) (.ref cL) = some true) (nl2 : PySem.W.exmOne X.K (.ref c2) (.ref cL) = some true) :
    LamX.GivesTo X ["_law_act", "e"] "_law_tried" (defScope s__law_tried) g cdg (defBody s__law_tried) "_law_act" q (TTried2 c1 nm1 c2 nm2) := by
  intro f c' s H Q tl act hc h
  have sc := sc__law_tried
  refine ⟨_, pss_one (ps_try_manyA (X := (cxOf C8.CX0 X.prog X.w X.K X.mg X.base ["_law_act", "e"] "_law_tried" (defScope s__law_tried) g cdg X.A X.stack s H C8.E0).nox) (n := "e") (i := 1)
      (tb := fun W D σ H => ∃ Ech : XK, (∀ cls d σ' H', Ech cls d H' → σ'.length = 2 → W cls d σ' H') ∧ σ[0]? = some (some (.ref f)) ∧ H c' = some (LamX.CodeO c' q) ∧ tl Ech H (fun v H1 => ([V.str "told", v] : List V).length ≤ sizeLine ∧ ∀ p, H1 p = none → D.rt (.ref p) (upd H1 p (.tup [.str "told", v]))))
      rfl rfl sc.nd rfl rfl LamX.takes0 (fun W pn xe tk _ => ?_)
      (.cons (c := .ref cL) ⟨by rfl, by decide, .inl gL⟩ (fun a oe cls d pn hz hf => pss_one (ps_ret (pe_tup (pa_cons pe_str (pa_cons (pe_or2 (pe_xf x1 no1 hz hf (pv 1)) (pe_xf x2 no2 hz hf (pv 1))) pa_nil)))))
      (.cons (c := .ref cM) ⟨by rfl, by decide, .inl gM⟩ (fun a oe cls d pn hz hf => pss_one ps_never) .nil))), ?_⟩
  · refine ⟨fun pins s' σ H' D I h' => ?_⟩
    obtain ⟨Ech, hW, h1, h2, h3⟩ := h'
    exact PSs.run (pss_one (ps_ret (pe_tup (pa_cons pe_str (pa_cons (act _ pn xe Ech _ _ (takes_len tk) (fun cls d σ' H' e hl => hW cls d σ' H' e hl)) pa_nil))))) pins s' σ H' D I ⟨h1, h2, h3⟩
  · refine ⟨_, fun cls d σ' H' e hl => ?_, rfl, hc, h⟩
    have g1 : ∀ a : Addr, (σ'.set 1 (some (V.ref a)))[1]? = some (some (V.ref a)) := fun a => set_get (by omega)
    obtain ⟨dd, fs, rfl, hd, ⟨rfl, hw, q'⟩ | ⟨rfl, hw, q'⟩⟩ := e
    · exact ⟨true, nl1, fun _ a _ => .inl ⟨_, g1 a, rfl, rfl, dd, _, _, rfl, hd, hw, (by show 2 ≤ sizeLine; decide), q'⟩, fun z => by cases z⟩
    · exact ⟨true, nl2, fun _ a _ => .inr ⟨_, g1 a, rfl, rfl, dd, _, _, rfl, hd, hw, (by show 2 ≤ sizeLine; decide), q'⟩, fun z => by cases z⟩
theorem sc__law_bag : FnScope ["_law_script"] ["_law_script"] (defScope s__law_bag) := ⟨rfl, rfl, rfl, by decide +kernel, rfl, by decide +kernel, by decide +kernel⟩
theorem ok__law_bag {f : Addr} {fd : FuncData} {k : Nat} (F : Fun K "_law_bag" "_law_bag" s__law_bag f fd) (n_len : mg "len" = none) (n_list : mg "list" = none) : FnOk P w K mg base CX0 (k + 1) f fd ["_law_script"] (spBag K) := by
  have sc := sc__law_bag
  refine F.ok sc (fun vs H Q E h => ?_) (fun cdv A outer s H vs Q E hr h => ?_)
  · obtain ⟨a, ns, rfl, _⟩ := h
    rfl
  · obtain ⟨a, ns, rfl, hS, q⟩ := h
    refine ⟨_, (pss_one (ps_ret (pe_lst (pa_cons (pe_callTy (call_listK K rfl) (by rfl) n_list (by decide +kernel) (pa_cons (pe_slice (sl_listK K rfl) (pv 0) po_none (po_some pe_int)) pa_nil)) (pa_cons pe_int (pa_cons pe_int (pa_cons (pe_op op_add pe_int (pe_callB (call_lenK K rfl) (by rfl) n_len PySem.boot_len (pa_cons (pe_slice (sl_listK K rfl) (pv 0) po_none (po_some pe_int)) pa_nil))) (pa_cons pe_int pa_nil)))))))), ?_⟩
    refine ⟨_, rfl, 63, rfl, a, _, rfl, hS, fun p1 n1 => ?_⟩
    refine ⟨p1, _, rfl, .inl (SqL.of upd_same), fun p2 n2 => ?_⟩
    have s1 : Same H (upd H p1 (.lst (cutV (ns.map V.int) none (some 63)))) := same_upd n1
    have s2 := s1.trans (same_upd (o := .lst (cutV (ns.map V.int) none (some 63))) n2)
    refine ⟨_, rfl, 63, rfl, a, _, rfl, s2.seq hS, fun p3 n3 => ?_⟩
    have s3 := s2.trans (same_upd (o := .lst (cutV (ns.map V.int) none (some 63))) n3)
    refine ⟨p3, _, rfl, .inl (SqL.of upd_same), _, _, rfl, rfl, (by show 5 ≤ sizeLine; decide), fun p4 n4 => ?_⟩
    have s4 := s3.trans (same_upd (o := .lst (bagL p2 0 0 (977 + ((cutV (ns.map V.int) none (some 63)).length : Int)) 0)) n4)
    have e0 : cutV (ns.map V.int) none (some 63) = (ns.take 63).map V.int := by
      unfold cutV
      rw [HT.sIx_none, show HT.sIx (ns.map V.int).length (ns.map V.int).length (some 63) = min 63 (ns.map V.int).length from HT.sIx_nat _ _ 63]
      simp only [List.drop_zero, Nat.sub_zero, List.length_map, List.map_take]
      by_cases h : ns.length ≤ 63
      · rw [Nat.min_eq_right h, List.take_of_length_le (by simp), List.take_of_length_le (by simpa using h)]
      · rw [Nat.min_eq_left (by omega)]
    have n42 : p4 ≠ p2 := fun z => by
      rw [z, upd_ne (ne_of_none upd_same n3), upd_same] at n4
      cases n4
    refine q _ (p4, p2) s4 (s3.free n4) ⟨ns.take 63, 0, 0, _, 0, upd_same, ?_, n42.symm, by omega, ?_, ?_⟩
    · rw [upd_ne n42.symm, upd_ne (ne_of_none upd_same n3), upd_same, e0]
    · omega
    · rw [e0, List.length_map, List.length_take]
      omega
theorem sc__law_pick : FnScope ["_law_bag_here", "_law_top", "_law_cell", "_law_digit"] ["_law_bag_here", "_law_top"] (defScope s__law_pick) := ⟨rfl, rfl, rfl, by decide +kernel, rfl, by decide +kernel, by decide +kernel⟩
theorem ok__law_pick {f : Addr} {fd : FuncData} {k : Nat} (F : Fun K "_law_pick" "_law_pick" s__law_pick f fd) (n_len : mg "len" = none) : FnOk P w K mg base CX0 (k + 1) f fd ["_law_bag_here", "_law_top"] spPick := by
  have sc := sc__law_pick
  refine F.ok sc (fun vs H Q E h => ?_) (fun cdv A outer s H vs Q E hr h => ?_)
  · obtain ⟨b, top, rfl, _⟩ := h
    rfl
  · obtain ⟨⟨b, sa⟩, top, rfl, ⟨ns, i, r, x, c, hb, hs, hne, hi, hx0, hx1⟩, ht0, ht1, q⟩ := h
    refine ⟨_, (pss_cons (ps_if (PW.pt (pw_and (pt_cmpR op_lt (pe_ix (ix_listK K rfl) (pv 0) pe_int (fun _ _ => rfl)) (pv 1) (nomark _)) (pw_and1 (pt_cmpR op_lt (pe_ix (ix_listK K rfl) (pv 0) pe_int (fun _ _ => rfl)) (pe_callB (call_lenK K rfl) (by rfl) n_len PySem.boot_len (pa_cons (pe_ix (ix_listK K rfl) (pv 0) pe_int (fun _ _ => rfl)) pa_nil)) (nomark _)))))
  (pss_cons (ps_set (i := 2) sc.nd rfl (.inl rfl) (pe_ix (ix_listK K rfl) (pe_ix (ix_listK K rfl) (pv 0) pe_int (fun _ _ => rfl)) (pe_ix (ix_listK K rfl) (pv 0) pe_int (fun _ _ => rfl)) (fun _ _ => rfl)))
 (pss_cons (ps_asg (pe_op op_add (pe_ix (ix_listK K rfl) (pv 0) pe_int (fun _ _ => rfl)) pe_int) (pg_sub (pv 0) pe_int set_list))
 (pss_cons (ps_asg (pe_op op_mod (pe_op op_add (pe_op op_add (pe_op op_mul (pe_ix (ix_listK K rfl) (pv 0) pe_int (fun _ _ => rfl)) pe_int) (pv 2)) (pe_ix (ix_listK K rfl) (pv 0) pe_int (fun _ _ => rfl))) pe_int) (pg_sub (pv 0) pe_int set_list))
 (pss_one (ps_asg (pe_ifExp (pt_cmpR op_ge (pv 2) (pe_op op_pow pe_int pe_int) (nomark _)) (pv 2) pe_int) (pg_sub (pv 0) pe_int set_list))))))
  pss_nil)
 (pss_cons (ps_if (pt_cmpR op_ge (pe_ix (ix_listK K rfl) (pv 0) pe_int (fun _ _ => rfl)) (pv 1) (nomark _))
  (pss_cons (ps_set (i := 3) sc.nd rfl (.inl rfl) (pe_op op_mod (pe_ix (ix_listK K rfl) (pv 0) pe_int (fun _ _ => rfl)) (pv 1)))
 (pss_cons (ps_asg (pe_op op_fdiv (pe_ix (ix_listK K rfl) (pv 0) pe_int (fun _ _ => rfl)) (pv 1)) (pg_sub (pv 0) pe_int set_list))
 (pss_one (ps_ret (pv 3)))))
  pss_nil)
 (pss_cons (ps_asg (pe_op op_add (pe_ix (ix_listK K rfl) (pv 0) pe_int (fun _ _ => rfl)) pe_int) (pg_sub (pv 0) pe_int set_list))
 (pss_cons (ps_asg (pe_op op_mod (pe_op op_add (pe_op op_add (pe_op op_add (pe_op op_pow (pe_ix (ix_listK K rfl) (pv 0) pe_int (fun _ _ => rfl)) pe_int) (pe_op op_mul pe_int (pe_ix (ix_listK K rfl) (pv 0) pe_int (fun _ _ => rfl)))) (pe_op op_fdiv (pe_ix (ix_listK K rfl) (pv 0) pe_int (fun _ _ => rfl)) pe_int)) pe_int) pe_int) (pg_sub (pv 0) pe_int set_list))
 (pss_one (ps_ret (pe_op op_mod (pe_op op_fdiv (pe_ix (ix_listK K rfl) (pv 0) pe_int (fun _ _ => rfl)) pe_int) (pv 1)))))))), ?_⟩
    refine seq_by (J := fun σ1 H1 => ∃ (y2 : Option V) (i r x c : Int), σ1 = [some (.ref b), some (.int top), y2, none] ∧ H1 b = some (.lst (bagL sa i r x c)) ∧ H1 sa = some (.lst (ns.map V.int)) ∧ Mv b H H1 ∧ 0 ≤ i ∧ 0 ≤ x ∧ x < 2147483648) ?_ (fun rest => ?_)
    · rintro σ1 H1 ⟨y2, i, r, x, c, rfl, hb, hs, mv, hi, hx0, hx1⟩
      refine ⟨_, rfl, b, _, 2, .int r, rfl, rfl, SqL.of hb, rfl, _, rfl, r, top, rfl, rfl, _, rfl, ite2 (fun e => ?_) (fun e => ?_)⟩
      · refine ⟨_, rfl, b, _, 2, .int r, rfl, rfl, SqL.of hb, rfl, _, rfl, r, top, rfl, rfl, ht0, ?_⟩
        refine ⟨_, rfl, b, _, 2, .int r, rfl, rfl, SqL.of hb, rfl, _, rfl, r, top, rfl, rfl, ⟨ht0, ht1⟩, ?_⟩
        refine ⟨_, rfl, b, _, 2, 2, rfl, rfl, hb, rfl, ?_⟩
        refine ⟨_, rfl, ?_⟩
        refine q _ _ mv.upd ⟨ns, i, _, x, c, upd_same, ?_, hne, hi, hx0, hx1⟩ (Int.emod_nonneg _ (by omega)) (Int.emod_lt_of_pos _ ht0)
        rw [upd_ne hne]
        exact hs
      · refine ⟨_, rfl, b, _, 4, .int c, rfl, rfl, SqL.of hb, rfl, c, 1, rfl, rfl, _, rfl, b, _, 4, 4, rfl, rfl, hb, rfl, ?_⟩
        have hb2 : upd H1 b (.lst (bagL sa i r x (c + 1))) b = some (.lst (bagL sa i r x (c + 1))) := upd_same
        refine ⟨_, rfl, b, _, 3, .int x, rfl, rfl, SqL.of hb2, rfl, x, 3, rfl, rfl, ⟨by decide, by decide, by omega⟩, ?_⟩
        refine ⟨_, rfl, b, _, 4, .int (c + 1), rfl, rfl, SqL.of hb2, rfl, 40503, c + 1, rfl, rfl, .inl ⟨by decide, by decide⟩, _, _, rfl, rfl, ?_⟩
        refine ⟨_, rfl, b, _, 3, .int x, rfl, rfl, SqL.of hb2, rfl, x, 65537, rfl, rfl, ⟨by decide, by decide⟩, _, _, rfl, rfl, _, _, rfl, rfl, _, _, rfl, rfl, (by show (0 : Int) < 2147483629; decide), ?_⟩
        refine ⟨_, rfl, b, _, 3, 3, rfl, rfl, hb2, rfl, ?_⟩
        rw [upd_upd]
        obtain ⟨z, hz⟩ : ∃ z, (x ^ Int.toNat 3 + 40503 * (c + 1) + x / 65537 + 11) % 2147483629 = z := ⟨_, rfl⟩
        have ez : (bagL sa i r x (c + 1)).set 3 ((fun i j => V.int (i % j)) (x ^ Int.toNat 3 + 40503 * (c + 1) + x / 65537 + 11) 2147483629) = bagL sa i r z (c + 1) := by rw [← hz]; rfl
        rw [ez]
        have z0 : 0 ≤ z := by rw [← hz]; exact Int.emod_nonneg _ (by decide)
        have z1 : z < 2147483648 := by
          have : z < 2147483629 := by rw [← hz]; exact Int.emod_lt_of_pos _ (by decide)
          omega
        have hb3 : upd H1 b (.lst (bagL sa i r z (c + 1))) b = some (.lst (bagL sa i r z (c + 1))) := upd_same
        refine ⟨_, rfl, b, _, 3, .int z, rfl, rfl, SqL.of hb3, rfl, z, 16, rfl, rfl, ⟨by decide, by decide⟩, _, rfl, _, top, rfl, rfl, ht0, ?_⟩
        refine q _ _ mv.upd ⟨ns, i, r, z, c + 1, upd_same, ?_, hne, hi, z0, z1⟩ (Int.emod_nonneg _ (by omega)) (Int.emod_lt_of_pos _ ht0)
        rw [upd_ne hne]
        exact hs
    · refine ⟨_, rfl, b, _, 2, .int r, rfl, rfl, SqL.of hb, rfl, _, rfl, r, top, rfl, rfl, _, rfl, ite2 (fun e => ?_) (fun e => ?_)⟩
      · refine ⟨_, rfl, b, _, 1, .int i, rfl, rfl, SqL.of hb, rfl, _, rfl, b, _, 0, .ref sa, rfl, rfl, SqL.of hb, rfl, sa, _, rfl, .inl (SqL.of hs), i, _, rfl, rfl, _, rfl, ite2 (fun e2 => ?_) (fun e2 => ?_)⟩
        · have hlt : i < (ns.length : Int) := by
            have := of_decide_eq_true e2
            rw [List.length_map] at this
            exact this
          obtain ⟨z, hz⟩ : ∃ z, ns[i.toNat]? = some z := ⟨_, List.getElem?_eq_getElem (by omega)⟩
          have hat : atI (ns.map V.int) i = some (.int z) := by
            have := atI_nat (xs := ns.map V.int) (j := i.toNat) (v := .int z) (by rw [List.getElem?_map, hz]; rfl)
            rwa [Int.toNat_of_nonneg hi] at this
          refine ⟨_, rfl, b, _, 0, .ref sa, rfl, rfl, SqL.of hb, rfl, _, rfl, b, _, 1, .int i, rfl, rfl, SqL.of hb, rfl, sa, _, i, _, rfl, rfl, SqL.of hs, hat, ?_⟩
          refine ⟨_, rfl, b, _, 1, .int i, rfl, rfl, SqL.of hb, rfl, i, 1, rfl, rfl, _, rfl, b, _, 1, 1, rfl, rfl, hb, rfl, ?_⟩
          have hb2 : upd H b (.lst (bagL sa (i + 1) r x c)) b = some (.lst (bagL sa (i + 1) r x c)) := upd_same
          refine ⟨_, rfl, b, _, 3, .int x, rfl, rfl, SqL.of hb2, rfl, x, 48271, rfl, rfl, .inr ⟨by decide, by decide⟩, _, rfl, _, z, rfl, rfl, ?_⟩
          refine ⟨_, rfl, b, _, 1, .int (i + 1), rfl, rfl, SqL.of hb2, rfl, _, _, rfl, rfl, _, _, rfl, rfl, (by show (0 : Int) < 2147483629; decide), ?_⟩
          refine ⟨_, rfl, b, _, 3, 3, rfl, rfl, hb2, rfl, ?_⟩
          rw [upd_upd]
          obtain ⟨y, hy⟩ : ∃ y, (x * 48271 + z + (i + 1)) % 2147483629 = y := ⟨_, rfl⟩
          have ey : (bagL sa (i + 1) r x c).set 3 ((fun i j => V.int (i % j)) (x * 48271 + z + (i + 1)) 2147483629) = bagL sa (i + 1) r y c := by rw [← hy]; rfl
          rw [ey]
          have y0 : 0 ≤ y := by rw [← hy]; exact Int.emod_nonneg _ (by decide)
          have y1 : y < 2147483648 := by
            have : y < 2147483629 := by rw [← hy]; exact Int.emod_lt_of_pos _ (by decide)
            omega
          have hb3 : upd H b (.lst (bagL sa (i + 1) r y c)) b = some (.lst (bagL sa (i + 1) r y c)) := upd_same
          have hne2 : ∀ o : HO, upd H b o sa = some (.lst (ns.map V.int)) := fun o => by
            rw [upd_ne hne]
            exact hs
          refine ⟨_, rfl, 10, 18, rfl, rfl, ⟨by decide, by decide, by decide⟩, z, _, rfl, rfl, _, rfl, ite2 (fun e3 => ?_) (fun e3 => ?_)⟩
          · refine ⟨_, rfl, _, rfl, b, _, 2, 2, rfl, rfl, hb3, rfl, ?_⟩
            rw [upd_upd]
            exact rest _ _ ⟨some (.int z), i + 1, z, y, c, rfl, upd_same, hne2 _, (Mv.refl _ _).upd, by omega, y0, y1⟩
          · refine ⟨_, rfl, b, _, 2, 2, rfl, rfl, hb3, rfl, ?_⟩
            rw [upd_upd]
            exact rest _ _ ⟨some (.int z), i + 1, 0, y, c, rfl, upd_same, hne2 _, (Mv.refl _ _).upd, by omega, y0, y1⟩
        · exact rest _ _ ⟨none, i, r, x, c, rfl, hb, hs, Mv.refl _ _, hi, hx0, hx1⟩
      · exact rest _ _ ⟨none, i, r, x, c, rfl, hb, hs, Mv.refl _ _, hi, hx0, hx1⟩
def spPickW : Sp := fun vs H Q _ => ∃ (b : Addr × Addr) (top : Int), vs = [.ref b.1, .int top] ∧ Bag b H ∧ 0 < top ∧ top ≤ 18446744073709551616 ∧ ∀ (H' : Hp) (d : Int), Mv b.1 H H' → Bag b H' → 0 ≤ d → d < top → Q (.int d) H'
theorem log_leW {z : Int} (h : z.natAbs < 2 ^ 65) : Nat.log2 z.natAbs < 9000 := by
  by_cases e : z.natAbs = 0
  · rw [e]
    decide
  · exact Nat.lt_trans ((Nat.log2_lt e).mpr h) (by decide)
theorem ok__law_pickW {f : Addr} {fd : FuncData} {k : Nat} (F : Fun K "_law_pick" "_law_pick" s__law_pick f fd) (n_len : mg "len" = none) : FnOk P w K mg base CX0 (k + 1) f fd ["_law_bag_here", "_law_top"] spPickW := by
  have sc := sc__law_pick
  refine F.ok sc (fun vs H Q E h => ?_) (fun cdv A outer s H vs Q E hr h => ?_)
  · obtain ⟨b, top, rfl, _⟩ := h
    rfl
  · obtain ⟨⟨b, sa⟩, top, rfl, ⟨ns, i, r, x, c, hb, hs, hne, hi, hx0, hx1⟩, ht0, ht1, q⟩ := h
    refine ⟨_, (pss_cons (ps_if (PW.pt (pw_and (pt_cmpR op_lt (pe_ix (ix_listK K rfl) (pv 0) pe_int (fun _ _ => rfl)) (pv 1) (nomark _)) (pw_and1 (pt_cmpR op_lt (pe_ix (ix_listK K rfl) (pv 0) pe_int (fun _ _ => rfl)) (pe_callB (call_lenK K rfl) (by rfl) n_len PySem.boot_len (pa_cons (pe_ix (ix_listK K rfl) (pv 0) pe_int (fun _ _ => rfl)) pa_nil)) (nomark _)))))
  (pss_cons (ps_set (i := 2) sc.nd rfl (.inl rfl) (pe_ix (ix_listK K rfl) (pe_ix (ix_listK K rfl) (pv 0) pe_int (fun _ _ => rfl)) (pe_ix (ix_listK K rfl) (pv 0) pe_int (fun _ _ => rfl)) (fun _ _ => rfl)))
 (pss_cons (ps_asg (pe_op op_add (pe_ix (ix_listK K rfl) (pv 0) pe_int (fun _ _ => rfl)) pe_int) (pg_sub (pv 0) pe_int set_list))
 (pss_cons (ps_asg (pe_op op_mod (pe_op op_add (pe_op op_add (pe_op op_mul (pe_ix (ix_listK K rfl) (pv 0) pe_int (fun _ _ => rfl)) pe_int) (pv 2)) (pe_ix (ix_listK K rfl) (pv 0) pe_int (fun _ _ => rfl))) pe_int) (pg_sub (pv 0) pe_int set_list))
 (pss_one (ps_asg (pe_ifExp (pt_cmpR op_ge (pv 2) (pe_op op_pow pe_int pe_int) (nomark _)) (pv 2) pe_int) (pg_sub (pv 0) pe_int set_list))))))
  pss_nil)
 (pss_cons (ps_if (pt_cmpR op_ge (pe_ix (ix_listK K rfl) (pv 0) pe_int (fun _ _ => rfl)) (pv 1) (nomark _))
  (pss_cons (ps_set (i := 3) sc.nd rfl (.inl rfl) (pe_op op_mod (pe_ix (ix_listK K rfl) (pv 0) pe_int (fun _ _ => rfl)) (pv 1)))
 (pss_cons (ps_asg (pe_op op_fdivW (pe_ix (ix_listK K rfl) (pv 0) pe_int (fun _ _ => rfl)) (pv 1)) (pg_sub (pv 0) pe_int set_list))
 (pss_one (ps_ret (pv 3)))))
  pss_nil)
 (pss_cons (ps_asg (pe_op op_add (pe_ix (ix_listK K rfl) (pv 0) pe_int (fun _ _ => rfl)) pe_int) (pg_sub (pv 0) pe_int set_list))
 (pss_cons (ps_asg (pe_op op_mod (pe_op op_add (pe_op op_add (pe_op op_add (pe_op op_pow (pe_ix (ix_listK K rfl) (pv 0) pe_int (fun _ _ => rfl)) pe_int) (pe_op op_mul pe_int (pe_ix (ix_listK K rfl) (pv 0) pe_int (fun _ _ => rfl)))) (pe_op op_fdivW (pe_ix (ix_listK K rfl) (pv 0) pe_int (fun _ _ => rfl)) pe_int)) pe_int) pe_int) (pg_sub (pv 0) pe_int set_list))
 (pss_one (ps_ret (pe_op op_mod (pe_op op_fdivW (pe_ix (ix_listK K rfl) (pv 0) pe_int (fun _ _ => rfl)) pe_int) (pv 1)))))))), ?_⟩
    refine seq_by (J := fun σ1 H1 => ∃ (y2 : Option V) (i r x c : Int), σ1 = [some (.ref b), some (.int top), y2, none] ∧ H1 b = some (.lst (bagL sa i r x c)) ∧ H1 sa = some (.lst (ns.map V.int)) ∧ Mv b H H1 ∧ 0 ≤ i ∧ 0 ≤ x ∧ x < 2147483648) ?_ (fun rest => ?_)
    · rintro σ1 H1 ⟨y2, i, r, x, c, rfl, hb, hs, mv, hi, hx0, hx1⟩
      refine ⟨_, rfl, b, _, 2, .int r, rfl, rfl, SqL.of hb, rfl, _, rfl, r, top, rfl, rfl, _, rfl, ite2 (fun e => ?_) (fun e => ?_)⟩
      · refine ⟨_, rfl, b, _, 2, .int r, rfl, rfl, SqL.of hb, rfl, _, rfl, r, top, rfl, rfl, ht0, ?_⟩
        refine ⟨_, rfl, b, _, 2, .int r, rfl, rfl, SqL.of hb, rfl, _, rfl, r, top, rfl, rfl, ⟨ht0, log_leW (by omega)⟩, ?_⟩
        refine ⟨_, rfl, b, _, 2, 2, rfl, rfl, hb, rfl, ?_⟩
        refine ⟨_, rfl, ?_⟩
        refine q _ _ mv.upd ⟨ns, i, _, x, c, upd_same, ?_, hne, hi, hx0, hx1⟩ (Int.emod_nonneg _ (by omega)) (Int.emod_lt_of_pos _ ht0)
        rw [upd_ne hne]
        exact hs
      · refine ⟨_, rfl, b, _, 4, .int c, rfl, rfl, SqL.of hb, rfl, c, 1, rfl, rfl, _, rfl, b, _, 4, 4, rfl, rfl, hb, rfl, ?_⟩
        have hb2 : upd H1 b (.lst (bagL sa i r x (c + 1))) b = some (.lst (bagL sa i r x (c + 1))) := upd_same
        refine ⟨_, rfl, b, _, 3, .int x, rfl, rfl, SqL.of hb2, rfl, x, 3, rfl, rfl, ⟨by decide, by decide, by omega⟩, ?_⟩
        refine ⟨_, rfl, b, _, 4, .int (c + 1), rfl, rfl, SqL.of hb2, rfl, 40503, c + 1, rfl, rfl, .inl ⟨by decide, by decide⟩, _, _, rfl, rfl, ?_⟩
        refine ⟨_, rfl, b, _, 3, .int x, rfl, rfl, SqL.of hb2, rfl, x, 65537, rfl, rfl, ⟨by decide, log_leW (by decide)⟩, _, _, rfl, rfl, _, _, rfl, rfl, _, _, rfl, rfl, (by show (0 : Int) < 2147483629; decide), ?_⟩
        refine ⟨_, rfl, b, _, 3, 3, rfl, rfl, hb2, rfl, ?_⟩
        rw [upd_upd]
        obtain ⟨z, hz⟩ : ∃ z, (x ^ Int.toNat 3 + 40503 * (c + 1) + x / 65537 + 11) % 2147483629 = z := ⟨_, rfl⟩
        have ez : (bagL sa i r x (c + 1)).set 3 ((fun i j => V.int (i % j)) (x ^ Int.toNat 3 + 40503 * (c + 1) + x / 65537 + 11) 2147483629) = bagL sa i r z (c + 1) := by rw [← hz]; rfl
        rw [ez]
        have z0 : 0 ≤ z := by rw [← hz]; exact Int.emod_nonneg _ (by decide)
        have z1 : z < 2147483648 := by
          have : z < 2147483629 := by rw [← hz]; exact Int.emod_lt_of_pos _ (by decide)
          omega
        have hb3 : upd H1 b (.lst (bagL sa i r z (c + 1))) b = some (.lst (bagL sa i r z (c + 1))) := upd_same
        refine ⟨_, rfl, b, _, 3, .int z, rfl, rfl, SqL.of hb3, rfl, z, 16, rfl, rfl, ⟨by decide, log_leW (by decide)⟩, _, rfl, _, top, rfl, rfl, ht0, ?_⟩
        refine q _ _ mv.upd ⟨ns, i, r, z, c + 1, upd_same, ?_, hne, hi, z0, z1⟩ (Int.emod_nonneg _ (by omega)) (Int.emod_lt_of_pos _ ht0)
        rw [upd_ne hne]
        exact hs
    · refine ⟨_, rfl, b, _, 2, .int r, rfl, rfl, SqL.of hb, rfl, _, rfl, r, top, rfl, rfl, _, rfl, ite2 (fun e => ?_) (fun e => ?_)⟩
      · refine ⟨_, rfl, b, _, 1, .int i, rfl, rfl, SqL.of hb, rfl, _, rfl, b, _, 0, .ref sa, rfl, rfl, SqL.of hb, rfl, sa, _, rfl, .inl (SqL.of hs), i, _, rfl, rfl, _, rfl, ite2 (fun e2 => ?_) (fun e2 => ?_)⟩
        · have hlt : i < (ns.length : Int) := by
            have := of_decide_eq_true e2
            rw [List.length_map] at this
            exact this
          obtain ⟨z, hz⟩ : ∃ z, ns[i.toNat]? = some z := ⟨_, List.getElem?_eq_getElem (by omega)⟩
          have hat : atI (ns.map V.int) i = some (.int z) := by
            have := atI_nat (xs := ns.map V.int) (j := i.toNat) (v := .int z) (by rw [List.getElem?_map, hz]; rfl)
            rwa [Int.toNat_of_nonneg hi] at this
          refine ⟨_, rfl, b, _, 0, .ref sa, rfl, rfl, SqL.of hb, rfl, _, rfl, b, _, 1, .int i, rfl, rfl, SqL.of hb, rfl, sa, _, i, _, rfl, rfl, SqL.of hs, hat, ?_⟩
          refine ⟨_, rfl, b, _, 1, .int i, rfl, rfl, SqL.of hb, rfl, i, 1, rfl, rfl, _, rfl, b, _, 1, 1, rfl, rfl, hb, rfl, ?_⟩
          have hb2 : upd H b (.lst (bagL sa (i + 1) r x c)) b = some (.lst (bagL sa (i + 1) r x c)) := upd_same
          refine ⟨_, rfl, b, _, 3, .int x, rfl, rfl, SqL.of hb2, rfl, x, 48271, rfl, rfl, .inr ⟨by decide, by decide⟩, _, rfl, _, z, rfl, rfl, ?_⟩
          refine ⟨_, rfl, b, _, 1, .int (i + 1), rfl, rfl, SqL.of hb2, rfl, _, _, rfl, rfl, _, _, rfl, rfl, (by show (0 : Int) < 2147483629; decide), ?_⟩
          refine ⟨_, rfl, b, _, 3, 3, rfl, rfl, hb2, rfl, ?_⟩
          rw [upd_upd]
          obtain ⟨y, hy⟩ : ∃ y, (x * 48271 + z + (i + 1)) % 2147483629 = y := ⟨_, rfl⟩
          have ey : (bagL sa (i + 1) r x c).set 3 ((fun i j => V.int (i % j)) (x * 48271 + z + (i + 1)) 2147483629) = bagL sa (i + 1) r y c := by rw [← hy]; rfl
          rw [ey]
          have y0 : 0 ≤ y := by rw [← hy]; exact Int.emod_nonneg _ (by decide)
          have y1 : y < 2147483648 := by
            have : y < 2147483629 := by rw [← hy]; exact Int.emod_lt_of_pos _ (by decide)
            omega
          have hb3 : upd H b (.lst (bagL sa (i + 1) r y c)) b = some (.lst (bagL sa (i + 1) r y c)) := upd_same
          have hne2 : ∀ o : HO, upd H b o sa = some (.lst (ns.map V.int)) := fun o => by
            rw [upd_ne hne]
            exact hs
          refine ⟨_, rfl, 10, 18, rfl, rfl, ⟨by decide, by decide, by decide⟩, z, _, rfl, rfl, _, rfl, ite2 (fun e3 => ?_) (fun e3 => ?_)⟩
          · refine ⟨_, rfl, _, rfl, b, _, 2, 2, rfl, rfl, hb3, rfl, ?_⟩
            rw [upd_upd]
            exact rest _ _ ⟨some (.int z), i + 1, z, y, c, rfl, upd_same, hne2 _, (Mv.refl _ _).upd, by omega, y0, y1⟩
          · refine ⟨_, rfl, b, _, 2, 2, rfl, rfl, hb3, rfl, ?_⟩
            rw [upd_upd]
            exact rest _ _ ⟨some (.int z), i + 1, 0, y, c, rfl, upd_same, hne2 _, (Mv.refl _ _).upd, by omega, y0, y1⟩
        · exact rest _ _ ⟨none, i, r, x, c, rfl, hb, hs, Mv.refl _ _, hi, hx0, hx1⟩
      · exact rest _ _ ⟨none, i, r, x, c, rfl, hb, hs, Mv.refl _ _, hi, hx0, hx1⟩
theorem sc__law_of : FnScope ["_law_bag_here", "_law_some"] ["_law_bag_here", "_law_some"] (defScope s__law_of) := ⟨rfl, rfl, rfl, by decide +kernel, rfl, by decide +kernel, by decide +kernel⟩
theorem ok__law_of {f : Addr} {fd : FuncData} {k : Nat} (F : Fun K "_law_of" "_law_of" s__law_of f fd) (n_len : mg "len" = none) (c__law_pick : Cal P w K mg base k "_law_pick" ["_law_bag_here", "_law_top"] spPick) : FnOk P w K mg base CX0 (k + 1) f fd ["_law_bag_here", "_law_some"] (spOf K) := by
  have sc := sc__law_of
  refine F.ok sc (fun vs H Q E h => ?_) (fun cdv A outer s H vs Q E hr h => ?_)
  · obtain ⟨b, l, xs, rfl, _⟩ := h
    rfl
  · obtain ⟨b, l, xs, rfl, hB, hne, hl, h0, h1, q⟩ := h
    refine ⟨_, (pss_one (ps_ret (pe_ix (ix_listK K rfl) (pv 1) (pe_callC c__law_pick hr (by rfl) (pa_cons (pv 0) (pa_cons (pe_callB (call_lenK K rfl) (by rfl) n_len PySem.boot_len (pa_cons (pv 1) pa_nil)) pa_nil))) (fun _ _ => rfl)))), ?_⟩
    refine ⟨_, rfl, _, rfl, _, rfl, l, xs, rfl, .inl (SqL.of hl), b, _, rfl, hB, by omega, by omega, fun H' d mv hB' d0 d1 => ?_⟩
    obtain ⟨v, hv⟩ : ∃ v, xs[d.toNat]? = some v := ⟨_, List.getElem?_eq_getElem (by omega)⟩
    have hat : atI xs d = some v := by
      have := atI_nat (xs := xs) (j := d.toNat) (v := v) hv
      rwa [Int.toNat_of_nonneg d0] at this
    exact ⟨l, xs, d, v, rfl, rfl, SqL.of (mv l _ hne hl), hat, q H' v mv hB' (List.mem_of_getElem? hv)⟩
theorem sc__law_far : FnScope ["_law_bag_here", "_law_figure"] ["_law_bag_here"] (defScope s__law_far) := ⟨rfl, rfl, rfl, by decide +kernel, rfl, by decide +kernel, by decide +kernel⟩
/-- any number -/
def spFar : Sp := fun vs H Q _ => ∃ (b : Addr × Addr), vs = [.ref b.1] ∧ Bag b H ∧ ∀ (H' : Hp) (z : Int), Mv b.1 H H' → Bag b H' → z.natAbs ≤ 1000000000000 → Q (.int z) H'
theorem ok__law_far {f : Addr} {fd : FuncData} {k : Nat} (F : Fun K "_law_far" "_law_far" s__law_far f fd) (c__law_pick : Cal P w K mg base k "_law_pick" ["_law_bag_here", "_law_top"] spPickW) : FnOk P w K mg base CX0 (k + 1) f fd ["_law_bag_here"] spFar := by
  have sc := sc__law_far
  refine F.ok sc (fun vs H Q E h => ?_) (fun cdv A outer s H vs Q E hr h => ?_)
  · obtain ⟨b, rfl, _⟩ := h
    rfl
  · obtain ⟨b, rfl, hB, q⟩ := h
    refine ⟨_, (pss_cons (ps_set (i := 1) sc.nd rfl (.inl rfl) (pe_callC c__law_pick hr (by rfl) (pa_cons (pv 0) (pa_cons (pe_op op_pow pe_int pe_int) pa_nil))))
 (pss_one (ps_ret (pe_ifExp (pt_cmpR op_eq (pe_callC c__law_pick hr (by rfl) (pa_cons (pv 0) (pa_cons pe_int pa_nil))) pe_int (nomark _)) (pv 1) (pe_op op_sub (pe_un un_neg pe_int) (pv 1)))))), ?_⟩
    refine ⟨_, rfl, 10, 12, rfl, rfl, ⟨by decide, by decide, by decide⟩, b, _, rfl, hB, by decide, by decide, fun H1 d mv1 hB1 d0 d1 => ?_⟩
    have d1 : d < 1000000000000 := d1
    refine ⟨_, rfl, b, 2, rfl, hB1, by decide, by decide, fun H2 e mv2 hB2 e0 e1 => ?_⟩
    refine ⟨rfl, _, rfl, ite2 (fun z => ?_) (fun z => ?_)⟩
    · exact ⟨_, rfl, q H2 d (mv1.trans mv2) hB2 (by omega)⟩
    · exact ⟨1, rfl, _, rfl, _, _, rfl, rfl, q H2 _ (mv1.trans mv2) hB2 (by omega)⟩
theorem sc__law_tone : FnScope ["_law_bag_here", "_law_close"] ["_law_bag_here"] (defScope s__law_tone) := ⟨rfl, rfl, rfl, by decide +kernel, rfl, by decide +kernel, by decide +kernel⟩
def spTone : Sp := fun vs H Q _ => ∃ (b : Addr × Addr), vs = [.ref b.1] ∧ Bag b H ∧ ∀ (H' : Hp) (z : Int), Mv b.1 H H' → Bag b H' → z.natAbs ≤ 1000000000000 → Q (.int z) H'
theorem ok__law_tone {f : Addr} {fd : FuncData} {k : Nat} (F : Fun K "_law_tone" "_law_tone" s__law_tone f fd) (c__law_pick : Cal P w K mg base k "_law_pick" ["_law_bag_here", "_law_top"] spPick) (c__law_of : Cal P w K mg base k "_law_of" ["_law_bag_here", "_law_some"] (spOf K)) (c__law_far : Cal P w K mg base k "_law_far" ["_law_bag_here"] spFar) : FnOk P w K mg base CX0 (k + 1) f fd ["_law_bag_here"] spTone := by
  have sc := sc__law_tone
  refine F.ok sc (fun vs H Q E h => ?_) (fun cdv A outer s H vs Q E hr h => ?_)
  · obtain ⟨b, rfl, _⟩ := h
    rfl
  · obtain ⟨b, rfl, hB, q⟩ := h
    refine ⟨_, (pss_cons (ps_set (i := 1) sc.nd rfl (.inl rfl) (pe_op op_sub (pe_callC c__law_pick hr (by rfl) (pa_cons (pv 0) (pa_cons pe_int pa_nil))) pe_int))
 (pss_one (ps_ret (pe_callC c__law_of hr (by rfl) (pa_cons (pv 0) (pa_cons (pe_lst (pa_cons (pv 1) (pa_cons (pv 1) (pa_cons pe_int (pa_cons pe_int (pa_cons (pe_callC c__law_far hr (by rfl) (pa_cons (pv 0) pa_nil)) pa_nil)))))) pa_nil)))))), ?_⟩
    refine ⟨_, rfl, b, 300, rfl, hB, by decide, by decide, fun H1 d mv1 hB1 d0 d1 => ⟨_, _, rfl, rfl, ?_⟩⟩
    refine name_by ?_
    dsimp only
    refine ⟨_, rfl, _, rfl, _, rfl, _, rfl, b, rfl, hB1, fun H2 z mv2 hB2 hz => ⟨(by show 5 ≤ sizeLine; decide), fun p np => ?_⟩⟩
    have h3 : SH b _ _ := (SH.nil hB2).new (o := .lst [.int (d - 150), .int (d - 150), .int 0, .int 1000, .int z]) np
    refine ⟨b, p, _, rfl, h3.bag, h3.ne (.head _), h3.get (.head _), (by show 0 < 5; decide), (by show 5 < 1000; decide), fun H4 v mv4 hB4 hv => ?_⟩
    have m4 := ((mv1.trans mv2).trans (Mv.of (same_upd np))).trans mv4
    rcases List.mem_cons.mp hv with rfl | hv
    · exact q H4 _ m4 hB4 (by omega)
    rcases List.mem_cons.mp hv with rfl | hv
    · exact q H4 _ m4 hB4 (by omega)
    rcases List.mem_cons.mp hv with rfl | hv
    · exact q H4 0 m4 hB4 (by decide)
    rcases List.mem_cons.mp hv with rfl | hv
    · exact q H4 1000 m4 hB4 (by decide)
    · rw [List.mem_singleton.mp hv]
      exact q H4 z m4 hB4 hz
theorem sc__law_shares : FnScope ["_law_bag_here", "_law_k"] ["_law_bag_here"] (defScope s__law_shares) := ⟨rfl, rfl, rfl, by decide +kernel, rfl, by decide +kernel, by decide +kernel⟩
/-- shares: a new tuple of at most four small numbers -/
def spShares (K : PySem.W.Frag) : Sp := fun vs H Q _ => ∃ (b : Addr × Addr), vs = [.ref b.1] ∧ Bag b H ∧ ∀ (H' : Hp) (t : Addr) (ws : List Int), Mv b.1 H H' → Bag b H' → H t = none → H' t = some (.tup (ws.map V.int)) → ws.length ≤ 4 → (∀ x ∈ ws, small x) → Q (.ref t) H'
theorem ok__law_shares {f : Addr} {fd : FuncData} {k : Nat} (F : Fun K "_law_shares" "_law_shares" s__law_shares f fd) (n_range : mg "range" = none) (n_tuple : mg "tuple" = none) (c__law_pick : Cal P w K mg base k "_law_pick" ["_law_bag_here", "_law_top"] spPick) : FnOk P w K mg base CX0 (k + 1) f fd ["_law_bag_here"] (spShares K) := by
  have sc := sc__law_shares
  refine F.ok sc (fun vs H Q E h => ?_) (fun cdv A outer s H vs Q E hr h => ?_)
  · obtain ⟨b, rfl, _⟩ := h
    rfl
  · obtain ⟨b, rfl, hB, q⟩ := h
    refine ⟨_, (pss_cons (ps_if (pt_cmpR op_eq (pe_callC c__law_pick hr (by rfl) (pa_cons (pv 0) (pa_cons pe_int pa_nil))) pe_int (nomark _))
  (pss_one (ps_ret (pe_tup pa_nil)))
  pss_nil)
 (pss_one (ps_ret (pe_callTy (call_tupleK K rfl) (by rfl) n_tuple (by decide +kernel) (pa_cons (pe_lc (own := [("_law_k", 1)]) (g := gName 1) (by rfl) sc.nd (pi_range1 (by rfl) n_range (pa_cons (pe_op op_add pe_int (pe_callC c__law_pick hr (by rfl) (pa_cons (pv 0) (pa_cons pe_int pa_nil)))) pa_nil)) (blkOk_by (own := [("_law_k", 1)]) (N := ["_law_bag_here", "_law_k"]) (sc := defScope s__law_shares) (by decide +kernel)) (fun _ _ _ _ _ => (pg_name (i := 1) sc.nd rfl (Or.inl rfl))) (fun _ _ _ _ _ => pts_nil) (fun _ _ _ _ _ => (pe_op op_sub (pe_callC c__law_pick hr (by rfl) (pa_cons (pv 0) (pa_cons pe_int pa_nil))) pe_int))) pa_nil))))), ?_⟩
    refine ⟨_, rfl, b, 5, rfl, hB, by decide, by decide, fun H1 d mv1 hB1 d0 d1 => ⟨rfl, _, rfl, ite2 (fun e => ?_) (fun e => ?_)⟩⟩
    · refine ⟨Nat.zero_le _, fun t nt => ?_⟩
      have s2 := same_upd (o := .tup []) nt
      exact q _ t [] (mv1.trans (Mv.of s2)) (hB1.same s2) (mv1.none (hB1.ne nt) nt) upd_same (by decide) (fun x hx => absurd hx List.not_mem_nil)
    · refine ⟨_, rfl, b, 4, rfl, hB1, by decide, by decide, fun H2 m mv2 hB2 m0 m1 => ⟨_, _, rfl, rfl, _, rfl, by omega, by omega, fun D nD => ?_⟩⟩
      have mv02 := mv1.trans mv2
      refine lc_range (lo := 0) (n := (1 + m).toNat) (fun i H' => ∃ ns : List Int, Mv b.1 H2 H' ∧ Bag b H' ∧ H' D = some (.lst (ns.map V.int)) ∧ (∀ x ∈ ns, small x) ∧ ns.length = i) ⟨[], Mv.of (same_upd nD), hB2.same (same_upd nD), upd_same, (fun x hx => absurd hx List.not_mem_nil), rfl⟩ ?_ ?_
      · rintro i H3 hi ⟨ns, mv3, hB3, eD, hsm, hl⟩
        refine ⟨rfl, tYes_by (iteT ?_)⟩
        refine ⟨_, rfl, b, 7, rfl, hB3, by decide, by decide, fun H4 y mv4 hB4 y0 y1 => ⟨_, _, rfl, rfl, ?_⟩⟩
        have neD : D ≠ b.1 := hB2.ne nD
        refine ⟨_, mv4 _ _ neD eD, ?_, ns ++ [y - 3], ?_, hB4.upd neD (hB2.ne2 nD), ?_, ?_, by simp [hl]⟩
        · rw [List.length_map, hl]
          exact sz4l (by omega)
        · intro a o ne ha
          rw [upd_ne (ne_of_none ha nD)]
          exact mv4 a o ne (mv3 a o ne ha)
        · rw [upd_same, List.map_append]
          rfl
        · intro x hx
          rcases List.mem_append.mp hx with z | z
          · exact hsm x z
          · rw [List.mem_singleton.mp z]
            unfold small
            omega
      · rintro H3 ⟨ns, mv3, hB3, eD, hsm, hl⟩
        refine ⟨D, _, rfl, .inl ⟨SqL.of eD, fun t nt => ?_⟩⟩
        have s4 := same_upd (o := .tup (ns.map V.int)) nt
        have mv03 := mv02.trans mv3
        exact q _ t ns (mv03.trans (Mv.of s4)) (hB3.same s4) (mv03.none (hB3.ne nt) nt) upd_same (by omega) hsm
theorem sc__law_wire_new : FnScope ["_law_bag_here", "_law_k"] ["_law_bag_here"] (defScope s__law_wire_new) := ⟨rfl, rfl, rfl, by decide +kernel, rfl, by decide +kernel, by decide +kernel⟩
theorem ok__law_wire_new {f : Addr} {fd : FuncData} {k : Nat} (F : Fun K "_law_wire_new" "_law_wire_new" s__law_wire_new f fd) (n_range : mg "range" = none) (c__law_shares : Cal P w K mg base k "_law_shares" ["_law_bag_here"] (spShares K)) : FnOk P w K mg base CX0 (k + 1) f fd ["_law_bag_here"] (spWNew K) := by
  have sc := sc__law_wire_new
  refine F.ok sc (fun vs H Q E h => ?_) (fun cdv A outer s H vs Q E hr h => ?_)
  · obtain ⟨b, rfl, _⟩ := h
    rfl
  · obtain ⟨b, rfl, hB, q⟩ := h
    refine ⟨_, (pss_one (ps_ret (pe_disp (pps_cons pe_str (pe_lc (own := [("_law_k", 1)]) (g := gName 1) (by rfl) sc.nd (pi_range1 (by rfl) n_range (pa_cons pe_int pa_nil)) (blkOk_by (own := [("_law_k", 1)]) (N := ["_law_bag_here", "_law_k"]) (sc := defScope s__law_wire_new) (by decide +kernel)) (fun _ _ _ _ _ => (pg_name (i := 1) sc.nd rfl (Or.inl rfl))) (fun _ _ _ _ _ => pts_nil) (fun _ _ _ _ _ => (pe_callC c__law_shares hr (by rfl) (pa_cons (pv 0) pa_nil)))) (pps_cons pe_str (pe_lst pa_nil) (pps_cons pe_str (pe_lst pa_nil) pps_nil))) rfl rfl (by simp) (by decide)))), ?_⟩
    refine fun d nd => ?_
    have h1 : Hw K [] [] [tB b] H := Hw.of (Hs.nil0.cons hB (fun j y hj => by cases hj))
    have h2 := h1.newU (o := .dK []) nd
    have mv2 : Mv b.1 H (upd H d (.dK [])) := Mv.of (same_upd nd)
    generalize upd H d (.dK []) = H2 at h2 mv2 ⊢
    refine ⟨4, rfl, by decide, by decide, fun D nD => ?_⟩
    have nD0 : H D = none := mv2.none (h2.bag.ne nD) nD
    refine lc_range (lo := 0) (n := 4) (fun i H' => ∃ P : List WP, Mv b.1 H H' ∧ Hw K (knW P) [] [tB b, tL D (refsW P), tO d (.dK [])] H' ∧ P.length = i ∧ ∀ p ∈ P, okWay p) ⟨[], mv2.trans (Mv.of (same_upd nD)), h2.newU (o := .lst []) nD, rfl, fun p hp => absurd hp List.not_mem_nil⟩ ?_ ?_
    · rintro i H3 hi ⟨P, mv3, h3, hl, hok⟩
      refine ⟨rfl, tYes_by (iteT ?_)⟩
      refine ⟨_, rfl, b, rfl, h3.bag, fun H4 t u mv4 hB4 nt et hul hus => ?_⟩
      have h4 := (h3.mv mv4 hB4).know (SqT.of et)
      refine ⟨_, h4.at 1 rfl, ?_, P ++ [(t, u)], ?_, ?_, by rw [List.length_append, hl]; rfl, ?_⟩
      · rw [List.length_map, hl]
        exact sz4l (by omega)
      · intro a o ne ha
        rw [upd_ne (ne_of_none ha nD0)]
        exact mv4 a o ne (mv3 a o ne ha)
      · have h5 := (h4.put (ys := refsW P ++ [.ref t]) 1 rfl).selT (L' := knW (P ++ [(t, u)])) (fun q hq => by
          have hq : q ∈ (P ++ [(t, u)]).map twW := hq
          rw [List.map_append] at hq
          rcases List.mem_append.mp hq with z | z
          · exact .tail _ z
          · rw [List.mem_singleton.mp z]
            exact .head _)
        have e : refsW (P ++ [(t, u)]) = refsW P ++ [.ref t] := List.map_append
        rw [e]
        exact h5
      · intro p hp
        rcases List.mem_append.mp hp with z | z
        · exact hok p z
        · rw [List.mem_singleton.mp z]
          exact ⟨hul, hus⟩
    · rintro H3 ⟨P, mv3, h3, hl, hok⟩
      refine ⟨Nat.zero_le _, fun la nla => ?_⟩
      have h4 := h3.newU (o := .lst []) nla
      have s4 := same_upd (o := .lst []) nla
      have nla0 : H la = none := mv3.none (h3.bag.ne nla) nla
      generalize upd H3 la (.lst []) = H4 at h4 s4 ⊢
      refine ⟨Nat.zero_le _, fun lb nlb => ?_⟩
      have h5 := h4.newU (o := .lst []) nlb
      have s5 := s4.trans (same_upd (o := .lst []) nlb)
      have mv5 := mv3.trans (Mv.of s5)
      have nlb0 : H lb = none := (mv3.trans (Mv.of s4)).none (h4.bag.ne nlb) nlb
      generalize upd H4 lb (.lst []) = H5 at h5 s5 mv5 ⊢
      refine ⟨h5.at 4 rfl, wsT (.ref D) (.ref la) (.ref lb), rfl, (by show 3 ≤ 15; decide), ?_⟩
      rw [wsT_merge]
      have n1 : D ≠ d := h5.hs.ne 3 4 rfl rfl (.head _) (.head _)
      have n2 : la ≠ d := h5.hs.ne 2 4 rfl rfl (.head _) (.head _)
      have n3 : lb ≠ d := h5.hs.ne 1 4 rfl rfl (.head _) (.head _)
      have hb1 : d ≠ b.1 := h5.hs.ne 4 0 rfl rfl (.head _) (.head _)
      have hb2 : d ≠ b.2 := h5.hs.ne 4 0 rfl rfl (.head _) (.tail _ (.head _))
      refine q _ d D la lb P ?_ (h5.bag.upd hb1 hb2) (fun a ha => ?_) ⟨upd_same, ?_, ?_, ?_⟩ ?_ hl hok
      · intro a o ne ha
        rw [upd_ne (ne_of_none ha nd)]
        exact mv5 a o ne ha
      · rcases in4w ha with rfl | rfl | rfl | rfl
        · exact nd
        · exact nD0
        · exact nla0
        · exact nlb0
      · rw [upd_ne n1]
        exact h5.at 3 rfl
      · rw [upd_ne n2]
        exact h5.at 2 rfl
      · rw [upd_ne n3]
        exact h5.at 1 rfl
      · have hd5 := h5.at 4 rfl
        exact TF.mvf (F := [d]) ((MvF.refl [d] H5).upd (.head _)) (fun a ha o e => by
          rw [in1 ha, hd5] at e
          cases e
          trivial) h5.tf
theorem sc__law_pairs : FnScope ["_law_bag_here", "_law_size", "_law_most", "_law_found", "_law_k", "_law_one", "_law_other"] ["_law_bag_here", "_law_size", "_law_most"] (defScope s__law_pairs) := ⟨rfl, rfl, rfl, by decide +kernel, rfl, by decide +kernel, by decide +kernel⟩
def lim2 (m : Int) (u : List Int) : Prop := ∃ a b : Int, u = [a, b] ∧ -m ≤ a ∧ a ≤ m ∧ -m ≤ b ∧ b ≤ m
def spPairs (K : PySem.W.Frag) : Sp := fun vs H Q _ => ∃ (b : Addr × Addr) (n : Nat) (m : Int), vs = [.ref b.1, .int n, .int m] ∧ Bag b H ∧ n ≤ 1000 ∧ 0 ≤ m ∧ m ≤ 100000 ∧ ∀ (H' : Hp) (l : Addr) (P : List WP), Mv b.1 H H' → Bag b H' → H l = none → H' l = some (.lst (refsW P)) → TF K (knW P) H' → P.length = n → (∀ p ∈ P, lim2 m p.2) → Q (.ref l) H'
theorem ok__law_pairs {f : Addr} {fd : FuncData} {k : Nat} (F : Fun K "_law_pairs" "_law_pairs" s__law_pairs f fd) (n_range : mg "range" = none) (c__law_pick : Cal P w K mg base k "_law_pick" ["_law_bag_here", "_law_top"] spPick) : FnOk P w K mg base CX0 (k + 1) f fd ["_law_bag_here", "_law_size", "_law_most"] (spPairs K) := by
  have sc := sc__law_pairs
  refine F.ok sc (fun vs H Q E h => ?_) (fun cdv A outer s H vs Q E hr h => ?_)
  · obtain ⟨b, n, m, rfl, _⟩ := h
    rfl
  · obtain ⟨b, n, m, rfl, hB, hn, hm0, hm1, q⟩ := h
    refine ⟨_, (pss_cons (ps_set (i := 3) sc.nd rfl (.inl rfl) (pe_lst pa_nil))
 (pss_cons (ps_for PassesOwn.never rfl (pi_range1 (by rfl) n_range (pa_cons (pv 1) pa_nil)) (pg_name (i := 4) sc.nd rfl (.inl rfl))
  (pss_cons (ps_par (i := 5) (j := 6) (by rfl) sc.nd rfl rfl (by decide) rfl rfl (pa_cons (pe_op op_sub (pe_callC c__law_pick hr (by rfl) (pa_cons (pv 0) (pa_cons (pe_op op_add (pe_op op_mul pe_int (pv 2)) pe_int) pa_nil))) (pv 2)) (pa_cons (pe_op op_sub (pe_callC c__law_pick hr (by rfl) (pa_cons (pv 0) (pa_cons (pe_op op_add (pe_op op_mul pe_int (pv 2)) pe_int) pa_nil))) (pv 2)) pa_nil)) (by rfl))
 (pss_one (ps_expr (pe_bmK K rfl PySem.F.plainAttrs_list PySem.F.slot_list_append PySem.F.type_list_append mt_append (pv 3) (pa_cons (pe_tup (pa_cons (pv 5) (pa_cons (pv 6) pa_nil))) pa_nil))))))
 (pss_one (ps_ret (pv 3))))), ?_⟩
    refine ⟨Nat.zero_le _, fun l nl => ?_⟩
    have h1 : Hw K (knW []) [] [tB b] H := Hw.of (Hs.nil0.cons hB (fun j y hj => by cases hj))
    have h2 := h1.newU (o := .lst []) nl
    have mv2 : Mv b.1 H (upd H l (.lst [])) := Mv.of (same_upd nl)
    generalize upd H l (.lst []) = H2 at h2 mv2 ⊢
    refine name_by ?_
    dsimp only
    have nl0 : H l = none := nl
    refine ⟨_, rfl, (n : Int), rfl, by omega, by omega, ?_⟩
    rw [Int.toNat_natCast]
    refine for_range (lo := 0) (n := n) (fun i σ H' => ∃ (P : List WP) (y4 y5 y6 : Option V), σ = [some (.ref b.1), some (.int (n : Int)), some (.int m), some (.ref l), y4, y5, y6] ∧ Mv b.1 H H' ∧ Hw K (knW P) [] [tB b, tL l (refsW P)] H' ∧ P.length = i ∧ ∀ p ∈ P, lim2 m p.2) ⟨[], none, none, none, rfl, mv2, h2, rfl, fun p hp => absurd hp List.not_mem_nil⟩ ?_ ?_
    · rintro i σ H3 hi ⟨P, y4, y5, y6, rfl, mv3, h3, hl, hok⟩
      refine ⟨_, rfl, _, rfl, _, _, rfl, rfl, .inl ⟨by omega, by omega⟩, _, _, rfl, rfl, b, _, rfl, h3.bag, by omega, by omega, fun H4 x mv4 hB4 x0 x1 => ⟨_, rfl, _, _, rfl, rfl, ?_⟩⟩
      have h4 := h3.mv mv4 hB4
      refine ⟨_, rfl, _, rfl, _, _, rfl, rfl, .inl ⟨by omega, by omega⟩, _, _, rfl, rfl, b, _, rfl, h4.bag, by omega, by omega, fun H5 y mv5 hB5 y0 y1 => ⟨_, rfl, _, _, rfl, rfl, _, _, rfl, ?_⟩⟩
      have h5 := h4.mv mv5 hB5
      dsimp only
      refine ⟨_, rfl, .inl ⟨rfl, _, SqL.of (h5.at 1 rfl)⟩, _, rfl, _, rfl, (by show 2 ≤ sizeLine; decide), fun t nt => ?_⟩
      have h6 := h5.newT (xs := [.int (x - m), .int (y - m)]) nt
      have s6 := same_upd (o := .tup [.int (x - m), .int (y - m)]) nt
      generalize upd H5 t (.tup [.int (x - m), .int (y - m)]) = H6 at h6 s6 ⊢
      refine ⟨l, _, _, rfl, rfl, h6.at 1 rfl, ?_, ?_⟩
      · rw [List.length_map, hl]
        exact sz4l (by omega)
      refine ⟨P ++ [(t, [x - m, y - m])], _, _, _, rfl, ?_, ?_, by rw [List.length_append, hl]; rfl, ?_⟩
      · intro a o ne ha
        rw [upd_ne (ne_of_none ha nl0)]
        exact s6 _ _ (mv5 a o ne (mv4 a o ne (mv3 a o ne ha)))
      · have h7 := (h6.put (ys := refsW P ++ [.ref t]) 1 rfl).selT (L' := knW (P ++ [(t, [x - m, y - m])])) (fun q hq => by
          have hq : q ∈ (P ++ [(t, [x - m, y - m])]).map twW := hq
          rw [List.map_append] at hq
          rcases List.mem_append.mp hq with z | z
          · exact .tail _ z
          · rw [List.mem_singleton.mp z]
            exact .head _)
        have e : refsW (P ++ [(t, [x - m, y - m])]) = refsW P ++ [.ref t] := List.map_append
        rw [e]
        exact h7
      · intro p hp
        rcases List.mem_append.mp hp with z | z
        · exact hok p z
        · rw [List.mem_singleton.mp z]
          exact ⟨_, _, rfl, by omega, by omega, by omega, by omega⟩
    · rintro σ H3 ⟨P, y4, y5, y6, rfl, mv3, h3, hl, hok⟩
      exact ⟨_, rfl, q H3 l P mv3 h3.bag nl0 (h3.at 1 rfl) h3.tf hl hok⟩
/-! ### how loud a training is -/
def inJ (j : Nat) : Prop := (5 ≤ j ∧ j < 10) ∨ (15 ≤ j ∧ j < 20)
def listJ : List Nat := [5, 6, 7, 8, 9, 15, 16, 17, 18, 19]
theorem mem_J {j : Nat} : j ∈ listJ ↔ inJ j := by
  unfold listJ inJ
  simp only [List.mem_cons, List.not_mem_nil, or_false]
  omega
theorem trSil_eq (W : W4) (N : Wds) : trSil W N = listJ.map (nzA N) ++ listJ.map (nzB N) := by
  unfold trSil
  rw [tr1_five W N (i := 5) (by decide), tr1_five W N (i := 15) (by decide), tr2_five W N (i := 5) (by decide), tr2_five W N (i := 15) (by decide)]
  show [1000 * (0 : Int) + nzA N 5, 1000 * 0 + nzA N 6, 1000 * 0 + nzA N 7, 1000 * 0 + nzA N 8, 1000 * 0 + nzA N 9] ++ [1000 * 0 + nzA N 15, 1000 * 0 + nzA N 16, 1000 * 0 + nzA N 17, 1000 * 0 + nzA N 18, 1000 * 0 + nzA N 19] ++ [1000 * 0 + nzB N 5, 1000 * 0 + nzB N 6, 1000 * 0 + nzB N 7, 1000 * 0 + nzB N 8, 1000 * 0 + nzB N 9] ++ [1000 * 0 + nzB N 15, 1000 * 0 + nzB N 16, 1000 * 0 + nzB N 17, 1000 * 0 + nzB N 18, 1000 * 0 + nzB N 19] = _
  simp only [Int.mul_zero, Int.zero_add]
  rfl
theorem mem_sil {W : W4} {N : Wds} {y : Int} : y ∈ (trSil W N).map absI ↔ ∃ j, inJ j ∧ (y = absI (nzA N j) ∨ y = absI (nzB N j)) := by
  rw [trSil_eq, List.map_append, List.mem_append, List.map_map, List.map_map, List.mem_map, List.mem_map]
  constructor
  · rintro (⟨j, hj, rfl⟩ | ⟨j, hj, rfl⟩)
    · exact ⟨j, mem_J.mp hj, .inl rfl⟩
    · exact ⟨j, mem_J.mp hj, .inr rfl⟩
  · rintro ⟨j, hj, rfl | rfl⟩
    · exact .inl ⟨j, mem_J.mpr hj, rfl⟩
    · exact .inr ⟨j, mem_J.mpr hj, rfl⟩
def max2I (i j : Int) : Int := if j > i then j else i
def mxP (p : WP) : Int := max2I (absI (p.2.getD 0 0)) (absI (p.2.getD 1 0))
def quietP (P : List WP) : List WP := (P.drop 5).take 5 ++ P.drop 15
theorem mem_quiet {P : List WP} (h : P.length = 20) {p : WP} : p ∈ quietP P ↔ ∃ j, inJ j ∧ P[j]? = some p := by
  unfold quietP inJ
  rw [List.mem_append]
  constructor
  · rintro (hp | hp)
    · obtain ⟨k, hk⟩ := List.getElem?_of_mem hp
      have hk5 : k < 5 := by
        have := (List.getElem?_eq_some_iff.mp hk).1
        rw [List.length_take] at this
        omega
      rw [List.getElem?_take_of_lt hk5, List.getElem?_drop] at hk
      exact ⟨5 + k, .inl ⟨by omega, by omega⟩, hk⟩
    · obtain ⟨k, hk⟩ := List.getElem?_of_mem hp
      rw [List.getElem?_drop] at hk
      have := (List.getElem?_eq_some_iff.mp hk).1
      exact ⟨15 + k, .inr ⟨by omega, by omega⟩, hk⟩
  · rintro ⟨j, h1 | h1, e⟩
    · refine .inl (List.mem_of_getElem? (i := j - 5) ?_)
      rw [List.getElem?_take_of_lt (by omega), List.getElem?_drop, show 5 + (j - 5) = j by omega]
      exact e
    · refine .inr (List.mem_of_getElem? (i := j - 15) ?_)
      rw [List.getElem?_drop, show 15 + (j - 15) = j by omega]
      exact e
theorem nz_of {P : List WP} {j : Nat} {p : WP} (h : P[j]? = some p) : nzA (wsOf P) j = p.2.getD 0 0 ∧ nzB (wsOf P) j = p.2.getD 1 0 := by
  have e : (wsOf P).getD j [] = p.2 := by rw [List.getD_eq_getElem?_getD, wsOf_at h]; rfl
  unfold nzA nzB
  rw [e]
  exact ⟨rfl, rfl⟩
theorem loud_is {W : W4} {P : List WP} {m m' : Int} (h : P.length = 20) (m1 : m ∈ (trSil W (wsOf P)).map absI) (m2 : ∀ y ∈ (trSil W (wsOf P)).map absI, y ≤ m) (n1 : m' ∈ (quietP P).map mxP) (n2 : ∀ y ∈ (quietP P).map mxP, y ≤ m') : m = m' := by
  have a : m ≤ m' := by
    obtain ⟨j, hj, e⟩ := mem_sil.mp m1
    have hjl : j < 20 := by unfold inJ at hj; omega
    obtain ⟨p, hp⟩ := getElem?_ex (show j < P.length by omega)
    have := n2 _ (List.mem_map.mpr ⟨p, (mem_quiet h).mpr ⟨j, hj, hp⟩, rfl⟩)
    rw [(nz_of hp).1, (nz_of hp).2] at e
    unfold mxP max2I at this
    rcases e with rfl | rfl
    · split at this <;> omega
    · split at this <;> omega
  have b : m' ≤ m := by
    obtain ⟨p, hp, rfl⟩ := List.mem_map.mp n1
    obtain ⟨j, hj, e⟩ := (mem_quiet h).mp hp
    have h1 := m2 _ (mem_sil.mpr ⟨j, hj, .inl rfl⟩)
    have h2 := m2 _ (mem_sil.mpr ⟨j, hj, .inr rfl⟩)
    rw [(nz_of e).1] at h1
    rw [(nz_of e).2] at h2
    unfold mxP max2I
    split <;> omega
  omega
theorem quiet_of {P : List WP} {m : Int} (hm : m < 500) (h : ∀ p ∈ P, lim2 m p.2) (h20 : P.length = 20) : quiet (wsOf P) := by
  intro j hj
  obtain ⟨p, hp⟩ := getElem?_ex (show j < P.length by omega)
  obtain ⟨a, b, e, h1, h2, h3, h4⟩ := h p (List.mem_of_getElem? hp)
  rw [(nz_of hp).1, (nz_of hp).2, e]
  show -500 < a ∧ a < 500 ∧ -500 < b ∧ b < 500
  omega
theorem nzOk_of {P : List WP} {m : Int} (h : ∀ p ∈ P, lim2 m p.2) : nzOk (wsOf P) := by
  intro u hu
  obtain ⟨p, hp, rfl⟩ := List.mem_map.mp hu
  obtain ⟨a, b, e, _⟩ := h p hp
  exact ⟨a, b, e⟩
theorem cutR (ts : List WP) (i j : Nat) (h : i ≤ j) : cutV (refsW ts) (some (i : Int)) (some (j : Int)) = refsW ((ts.drop i).take (j - i)) := by
  unfold refsW
  rw [cut_mid _ _ _ h, List.map_take, List.map_drop]
theorem cutRf (ts : List WP) (i : Nat) : cutV (refsW ts) (some (i : Int)) none = refsW (ts.drop i) := by
  unfold refsW
  rw [cut_from_n, List.map_drop]
theorem cutRt (ts : List WP) (i : Nat) : cutV (refsW ts) none (some (i : Int)) = refsW (ts.take i) := by
  unfold refsW
  rw [cut_to_n, List.map_take]
theorem sc__law_same : FnScope ["_law_found", "_law_due", "_law_spot"] ["_law_found", "_law_due"] (defScope s__law_same) := ⟨rfl, rfl, rfl, by decide +kernel, rfl, by decide +kernel, by decide +kernel⟩
theorem ok__law_same {f : Addr} {fd : FuncData} (F : Fun K "_law_same" "_law_same" s__law_same f fd) (gS : mg "_law_same" = some (.ref f)) (bS : Binds K fd ["_law_found", "_law_due"] []) (n_len : mg "len" = none) (n_all : mg "all" = none) (n_bool : mg "bool" = none) (n_int : mg "int" = none)
    (n_isinstance : mg "isinstance" = none) (n_list : mg "list" = none) (n_range : mg "range" = none) (n_str : mg "str" = none) (n_tuple : mg "tuple" = none) : ∀ n : Nat, FnOk P w K mg base CX0 n f fd ["_law_found", "_law_due"] (spSame K n)
  | 0 => ⟨fun vs H Q E h => by obtain ⟨x, y, d, _, _, _, h, _⟩ := h; exact h.elim, fun A outer s H args us vs Q E hr e0 bt r h => by obtain ⟨x, y, d, _, _, _, h, _⟩ := h; exact h.elim⟩
  | n + 1 => by
    have c__law_same : Cal P w K mg base n "_law_same" ["_law_found", "_law_due"] (spSame K n) := ⟨f, fd, ok__law_same F gS bS n_len n_all n_bool n_int n_isinstance n_list n_range n_str n_tuple n, gS, F.kp, bS⟩
    have sc := sc__law_same
    refine F.ok sc (fun vs H Q E h => ?_) (fun cdv A outer s H vs Q E hr h => ?_)
    · obtain ⟨x, y, d, rfl, _⟩ := h
      rfl
    · obtain ⟨x, y, d, rfl, dx, dy, dn, sd, q⟩ := h
      have tx := ty_dp dx
      have ty := ty_dp dy
      refine ⟨_, (pss_cons (ps_if (pt_cmpR op_isN (pv 1) pe_non (nomark _))
  (pss_one (ps_ret (pe_cmpR op_isN (pv 0) pe_non (nomark _))))
  pss_nil)
 (pss_cons (ps_if (PW.pt (pw_or (pt_val (pe_callB (call_isiK1 K rfl) (by rfl) n_isinstance (by decide +kernel) (pa_cons (pv 1) (pa_cons (pe_bltn (v := .ty "bool") (by rfl) n_bool (by decide +kernel) rfl) pa_nil)))) (pw_or1 (pt_val (pe_callB (call_isiK1 K rfl) (by rfl) n_isinstance (by decide +kernel) (pa_cons (pv 0) (pa_cons (pe_bltn (v := .ty "bool") (by rfl) n_bool (by decide +kernel) rfl) pa_nil)))))))
  (pss_one (ps_ret (pe_and (pe_callB (call_isiK1 K rfl) (by rfl) n_isinstance (by decide +kernel) (pa_cons (pv 1) (pa_cons (pe_bltn (v := .ty "bool") (by rfl) n_bool (by decide +kernel) rfl) pa_nil))) (pe_and (pe_callB (call_isiK1 K rfl) (by rfl) n_isinstance (by decide +kernel) (pa_cons (pv 0) (pa_cons (pe_bltn (v := .ty "bool") (by rfl) n_bool (by decide +kernel) rfl) pa_nil))) (pe_one (pe_cmpR (op_eqDK K rfl hr.units) (pv 0) (pv 1) (nomark _)))))))
  pss_nil)
 (pss_cons (ps_if (pt_val (pe_callB (call_isiTK K rfl) (by rfl) n_isinstance (by decide +kernel) (pa_cons (pv 1) (pa_cons (pe_tup (pa_cons (pe_bltn (v := .ty "int") (by rfl) n_int (by decide +kernel) rfl) (pa_cons (pe_bltn (v := .ty "str") (by rfl) n_str (by decide +kernel) rfl) pa_nil))) pa_nil))))
  (pss_one (ps_ret (pe_and (pe_callB (call_isiTK K rfl) (by rfl) n_isinstance (by decide +kernel) (pa_cons (pv 0) (pa_cons (pe_tup (pa_cons (pe_bltn (v := .ty "int") (by rfl) n_int (by decide +kernel) rfl) (pa_cons (pe_bltn (v := .ty "str") (by rfl) n_str (by decide +kernel) rfl) pa_nil))) pa_nil))) (pe_and (pe_cmpR op_eq (pe_callB (call_isiK1 K rfl) (by rfl) n_isinstance (by decide +kernel) (pa_cons (pv 0) (pa_cons (pe_bltn (v := .ty "int") (by rfl) n_int (by decide +kernel) rfl) pa_nil))) (pe_callB (call_isiK1 K rfl) (by rfl) n_isinstance (by decide +kernel) (pa_cons (pv 1) (pa_cons (pe_bltn (v := .ty "int") (by rfl) n_int (by decide +kernel) rfl) pa_nil))) (nomark _)) (pe_one (pe_cmpR (op_eqDK K rfl hr.units) (pv 0) (pv 1) (nomark _)))))))
  pss_nil)
 (pss_cons (ps_if (PW.pt (pw_or (pt_cmpR op_ne (pe_callB (call_isiK1 K rfl) (by rfl) n_isinstance (by decide +kernel) (pa_cons (pv 1) (pa_cons (pe_bltn (v := .ty "list") (by rfl) n_list (by decide +kernel) rfl) pa_nil))) (pe_callB (call_isiK1 K rfl) (by rfl) n_isinstance (by decide +kernel) (pa_cons (pv 0) (pa_cons (pe_bltn (v := .ty "list") (by rfl) n_list (by decide +kernel) rfl) pa_nil))) (nomark _)) (pw_or1 (pt_cmpR op_ne (pe_callB (call_isiK1 K rfl) (by rfl) n_isinstance (by decide +kernel) (pa_cons (pv 1) (pa_cons (pe_bltn (v := .ty "tuple") (by rfl) n_tuple (by decide +kernel) rfl) pa_nil))) (pe_callB (call_isiK1 K rfl) (by rfl) n_isinstance (by decide +kernel) (pa_cons (pv 0) (pa_cons (pe_bltn (v := .ty "tuple") (by rfl) n_tuple (by decide +kernel) rfl) pa_nil))) (nomark _)))))
  (pss_one (ps_ret pe_bl))
  pss_nil)
 (pss_cons (ps_if (PW.pt (pw_or (pt_not (pt_val (pe_callB (call_isiTK K rfl) (by rfl) n_isinstance (by decide +kernel) (pa_cons (pv 0) (pa_cons (pe_tup (pa_cons (pe_bltn (v := .ty "list") (by rfl) n_list (by decide +kernel) rfl) (pa_cons (pe_bltn (v := .ty "tuple") (by rfl) n_tuple (by decide +kernel) rfl) pa_nil))) pa_nil))))) (pw_or1 (pt_cmpR op_ne (pe_callB (call_lenK K rfl) (by rfl) n_len PySem.boot_len (pa_cons (pv 0) pa_nil)) (pe_callB (call_lenK K rfl) (by rfl) n_len PySem.boot_len (pa_cons (pv 1) pa_nil)) (nomark _)))))
  (pss_one (ps_ret pe_bl))
  pss_nil)
 (pss_one (ps_ret (pe_callB (cr_allK K rfl rfl) (by rfl) n_all (by decide +kernel) (pa_cons (pe_lc (own := [("_law_spot", 2)]) (g := gName 2) (by rfl) sc.nd (pi_range1 (by rfl) n_range (pa_cons (pe_callB (call_lenK K rfl) (by rfl) n_len PySem.boot_len (pa_cons (pv 1) pa_nil)) pa_nil)) (blkOk_by (own := [("_law_spot", 2)]) (N := ["_law_found", "_law_due", "_law_spot"]) (sc := defScope s__law_same) (by decide +kernel)) (fun _ _ _ _ _ => (pg_name (i := 2) sc.nd rfl (Or.inl rfl))) (fun _ _ _ _ _ => pts_nil) (fun _ _ _ _ _ => (pe_callC c__law_same hr (by rfl) (pa_cons (pe_ix (ix_seqK K rfl) (pv 0) (pv 2) (fun _ _ => rfl)) (pa_cons (pe_ix (ix_seqK K rfl) (pv 1) (pv 2) (fun _ _ => rfl)) pa_nil))))) pa_nil))))))))), ?_⟩
      have er : PyData.eqv d d = true := SeqAt.eqv_refl d (SeqAt.canLay_of_shaped sd)
      rcases dn with ⟨b, rfl⟩ | ⟨i, rfl⟩ | ⟨z, rfl⟩ | rfl | ⟨ds, hd, hlen, hn⟩
      · have tx : TyX K H x (.type "bool") := tx
        have ty : TyX K H y (.type "bool") := ty
        have kb : PySem.W.kitOne K (.type "bool") (.type "bool") = some true := kit_ty (by decide +kernel)
        have dx' := dx
        have dy' := dy
        cases dx
        cases dy
        refine ⟨_, rfl, rfl, _, rfl, iteF ?_⟩
        refine ⟨_, rfl, _, _, _, _, true, rfl, .ty "bool", ty, kb, _, rfl, iteT ?_⟩
        refine iteT ?_
        refine ⟨_, rfl, _, _, _, _, true, rfl, .ty "bool", ty, kb, true, rfl, iteT ?_⟩
        refine ⟨_, rfl, _, _, _, _, true, rfl, .ty "bool", tx, kb, true, rfl, iteT ?_⟩
        refine ⟨_, rfl, _, rfl, .bool b, .bool b, dx', dy', sd, sd, ?_⟩
        rw [er]
        exact q _ (Same.refl _)
      · have tx : TyX K H x (.type "int") := tx
        have ty : TyX K H y (.type "int") := ty
        have kb : PySem.W.kitOne K (.type "int") (.type "bool") = some false := kit_ty (by decide +kernel)
        have ki : PySem.W.kitOne K (.type "int") (.type "int") = some true := kit_ty (by decide +kernel)
        have dx' := dx
        have dy' := dy
        cases dx
        cases dy
        refine ⟨_, rfl, rfl, _, rfl, iteF ?_⟩
        refine ⟨_, rfl, _, _, _, _, false, rfl, .ty "bool", ty, kb, _, rfl, iteF ?_⟩
        refine ⟨_, rfl, _, _, _, _, false, rfl, .ty "bool", tx, kb, _, rfl, iteF ?_⟩
        refine ⟨_, rfl, (by show 2 ≤ sizeLine; decide), fun p np => ?_⟩
        have s1 : Same H (upd H p (.tup [.ty "int", .ty "str"])) := same_upd np
        refine ⟨_, p, _, _, _, true, rfl, upd_same, .cons (.ty "int") (.cons (.ty "str") .nil), .base (.int i), kitAny_cons ki (fun z => nomatch z) (fun _ => rfl), _, rfl, iteT ?_⟩
        refine ⟨_, rfl, (by show 2 ≤ sizeLine; decide), fun p2 np2 => ?_⟩
        have s2 : Same _ (upd _ p2 (.tup [.ty "int", .ty "str"])) := same_upd np2
        refine ⟨_, p2, _, _, _, true, rfl, upd_same, .cons (.ty "int") (.cons (.ty "str") .nil), .base (.int i), kitAny_cons ki (fun z => nomatch z) (fun _ => rfl), true, rfl, iteT ?_⟩
        refine ⟨_, rfl, _, _, _, _, true, rfl, .ty "int", .base (.int i), ki, ?_⟩
        refine ⟨_, rfl, _, _, _, _, true, rfl, .ty "int", .base (.int i), ki, rfl, true, rfl, iteT ?_⟩
        refine ⟨_, rfl, _, rfl, .int i, .int i, .int i, .int i, sd, sd, ?_⟩
        rw [er]
        exact q _ (s1.trans s2)
      · have tx : TyX K H x (.type "str") := tx
        have ty : TyX K H y (.type "str") := ty
        have kb : PySem.W.kitOne K (.type "str") (.type "bool") = some false := kit_ty (by decide +kernel)
        have ki : PySem.W.kitOne K (.type "str") (.type "int") = some false := kit_ty (by decide +kernel)
        have ks : PySem.W.kitOne K (.type "str") (.type "str") = some true := kit_ty (by decide +kernel)
        have kk : PySem.W.kitAny K (.type "str") [.type "int", .type "str"] = some true := kitAny_cons ki (fun _ => kitAny_cons ks (fun z => nomatch z) (fun _ => rfl)) (fun z => nomatch z)
        cases dx
        cases dy
        refine ⟨_, rfl, rfl, _, rfl, iteF ?_⟩
        refine ⟨_, rfl, _, _, _, _, false, rfl, .ty "bool", ty, kb, _, rfl, iteF ?_⟩
        refine ⟨_, rfl, _, _, _, _, false, rfl, .ty "bool", tx, kb, _, rfl, iteF ?_⟩
        refine ⟨_, rfl, (by show 2 ≤ sizeLine; decide), fun p np => ?_⟩
        have s1 : Same H (upd H p (.tup [.ty "int", .ty "str"])) := same_upd np
        refine ⟨_, p, _, _, _, true, rfl, upd_same, .cons (.ty "int") (.cons (.ty "str") .nil), .base (.str z), kk, _, rfl, iteT ?_⟩
        refine ⟨_, rfl, (by show 2 ≤ sizeLine; decide), fun p2 np2 => ?_⟩
        have s2 : Same _ (upd _ p2 (.tup [.ty "int", .ty "str"])) := same_upd np2
        refine ⟨_, p2, _, _, _, true, rfl, upd_same, .cons (.ty "int") (.cons (.ty "str") .nil), .base (.str z), kk, true, rfl, iteT ?_⟩
        refine ⟨_, rfl, _, _, _, _, false, rfl, .ty "int", .base (.str z), ki, ?_⟩
        refine ⟨_, rfl, _, _, _, _, false, rfl, .ty "int", .base (.str z), ki, rfl, true, rfl, iteT ?_⟩
        refine ⟨_, rfl, _, rfl, .str z, .str z, .str z, .str z, sd, sd, ?_⟩
        rw [er]
        exact q _ (s1.trans s2)
      · cases dx
        cases dy
        refine ⟨_, rfl, rfl, _, rfl, iteT ?_⟩
        exact ⟨_, rfl, rfl, q _ (Same.refl _)⟩
      · -- a list or a tuple
        obtain ⟨ax, ay, xs, ys, nm, rfl, rfl, hsx, hsy, hax, hay, tx, ty, hnm, enm⟩ : ∃ (ax ay : Addr) (xs ys : List V) (nm : String), x = .ref ax ∧ y = .ref ay ∧ (SqL K H ax xs ∨ SqT K H ax xs) ∧ (SqL K H ay ys ∨ SqT K H ay ys) ∧ DpAll K H xs ds ∧ DpAll K H ys ds ∧
            TyX K H x (.type nm) ∧ TyX K H y (.type nm) ∧ (nm = "list" ∨ nm = "tuple") ∧ nm = tyN d := by
          rcases hd with rfl | rfl
          · cases dx with
            | lst h1 h2 =>
              cases dy with
              | lst h3 h4 => exact ⟨_, _, _, _, "list", rfl, rfl, .inl h1, .inl h3, h2, h4, tx, ty, .inl rfl, rfl⟩
          · cases dx with
            | tup h1 h2 =>
              cases dy with
              | tup h3 h4 => exact ⟨_, _, _, _, "tuple", rfl, rfl, .inr h1, .inr h3, h2, h4, tx, ty, .inr rfl, rfl⟩
        have kb : PySem.W.kitOne K (.type nm) (.type "bool") = some false := by rcases hnm with rfl | rfl <;> exact kit_ty (by decide +kernel)
        have ki : PySem.W.kitOne K (.type nm) (.type "int") = some false := by rcases hnm with rfl | rfl <;> exact kit_ty (by decide +kernel)
        have ks : PySem.W.kitOne K (.type nm) (.type "str") = some false := by rcases hnm with rfl | rfl <;> exact kit_ty (by decide +kernel)
        obtain ⟨bl, kl⟩ : ∃ bl, PySem.W.kitOne K (.type nm) (.type "list") = some bl := by
          rcases hnm with rfl | rfl
          · exact ⟨true, kit_ty (by decide +kernel)⟩
          · exact ⟨false, kit_ty (by decide +kernel)⟩
        obtain ⟨bt, kt⟩ : ∃ bt, PySem.W.kitOne K (.type nm) (.type "tuple") = some bt := by
          rcases hnm with rfl | rfl
          · exact ⟨false, kit_ty (by decide +kernel)⟩
          · exact ⟨true, kit_ty (by decide +kernel)⟩
        have kk : PySem.W.kitAny K (.type nm) [.type "int", .type "str"] = some false := kitAny_cons ki (fun _ => kitAny_cons ks (fun _ => rfl) (fun z => nomatch z)) (fun z => nomatch z)
        have kq : PySem.W.kitAny K (.type nm) [.type "list", .type "tuple"] = some true := by
          rcases hnm with rfl | rfl
          · exact kitAny_cons (b := true) (kit_ty (by decide +kernel)) (fun z => nomatch z) (fun _ => rfl)
          · exact kitAny_cons (b := false) (kit_ty (by decide +kernel)) (fun _ => kitAny_cons (b := true) (kit_ty (by decide +kernel)) (fun z => nomatch z) (fun _ => rfl)) (fun z => nomatch z)
        have typ : ∀ {H' : Hp} {v : V}, Same H H' → TyX K H v (.type nm) → (v = .ref ax ∨ v = .ref ay) → TyX K H' v (.type nm) := by
          intro H' v sm h hv
          rw [enm]
          rcases hv with rfl | rfl
          · exact ty_dp (dp_same sm dx)
          · exact ty_dp (dp_same sm dy)
        refine ⟨_, rfl, rfl, _, rfl, iteF ?_⟩
        refine ⟨_, rfl, _, _, _, _, false, rfl, .ty "bool", ty, kb, _, rfl, iteF ?_⟩
        refine ⟨_, rfl, _, _, _, _, false, rfl, .ty "bool", tx, kb, _, rfl, iteF ?_⟩
        refine ⟨_, rfl, (by show 2 ≤ sizeLine; decide), fun p np => ?_⟩
        have s1 : Same H (upd H p (.tup [.ty "int", .ty "str"])) := same_upd np
        refine ⟨_, p, _, _, _, false, rfl, upd_same, .cons (.ty "int") (.cons (.ty "str") .nil), typ s1 ty (.inr rfl), kk, _, rfl, iteF ?_⟩
        refine ⟨_, rfl, _, _, _, _, bl, rfl, .ty "list", typ s1 ty (.inr rfl), kl, ?_⟩
        refine ⟨_, rfl, _, _, _, _, bl, rfl, .ty "list", typ s1 tx (.inl rfl), kl, rfl, _, rfl, ifF (by simp) ?_⟩
        refine ⟨_, rfl, _, _, _, _, bt, rfl, .ty "tuple", typ s1 ty (.inr rfl), kt, ?_⟩
        refine ⟨_, rfl, _, _, _, _, bt, rfl, .ty "tuple", typ s1 tx (.inl rfl), kt, rfl, _, rfl, ifF (by simp) ?_⟩
        refine ⟨_, rfl, (by show 2 ≤ sizeLine; decide), fun p2 np2 => ?_⟩
        have s2 : Same H _ := s1.trans (same_upd (o := .tup [.ty "list", .ty "tuple"]) np2)
        refine ⟨_, p2, _, _, _, true, rfl, upd_same, .cons (.ty "list") (.cons (.ty "tuple") .nil), typ s2 tx (.inl rfl), kq, _, rfl, iteF ?_⟩
        have sq2 : ∀ {H' : Hp} {a : Addr} {zs : List V}, Same H H' → (SqL K H a zs ∨ SqT K H a zs) → (SqL K H' a zs ∨ SqT K H' a zs) := fun sm h => h.elim (fun z => .inl (sm.seq z)) (fun z => .inr (same_t sm z))
        refine ⟨_, rfl, ax, xs, rfl, sq2 s2 hsx, _, rfl, ay, ys, rfl, sq2 s2 hsy, rfl, _, rfl, ifF (by rw [dpa_len hax, dpa_len hay]; simp) ?_⟩
        refine ⟨_, rfl, ay, ys, rfl, sq2 s2 hsy, _, rfl, ?_, ?_, fun D nD => lc_range (lo := 0) (n := ((ys.length : Int)).toNat) (fun i H' => Same H H' ∧ H' D = some (.lst ((List.replicate i true).map V.bl))) ?_ ?_ ?_⟩
        · rw [dpa_len hay]
          omega
        · rw [dpa_len hay]
          omega
        · exact ⟨s2.trans (same_upd nD), upd_same⟩
        · rintro i H' hi ⟨sm, eD⟩
          rw [Int.toNat_natCast] at hi
          have hds : i < ds.length := by rw [← dpa_len hay]; exact hi
          obtain ⟨vx, gx, dvx⟩ := dpa_get hax (List.getElem?_eq_getElem hds)
          obtain ⟨vy, gy, dvy⟩ := dpa_get hay (List.getElem?_eq_getElem hds)
          have ix : ∀ {a : Addr} {zs : List V} {v : V} {Q' : VK}, (SqL K H a zs ∨ SqT K H a zs) → zs[i]? = some v → Q' v H' → rIx K (.ref a) (.int (0 + (i : Int))) H' Q' := by
            intro a zs v Q' h g q'
            have e : atI zs (0 + (i : Int)) = some v := by rw [Int.zero_add]; exact atI_nat g
            rcases sq2 sm h with h | h
            · exact .inl ⟨a, zs, _, v, rfl, rfl, h, e, q'⟩
            · exact .inr (.inl ⟨a, zs, _, v, rfl, rfl, h, e, q'⟩)
          refine ⟨rfl, tYes_by (iteT ?_)⟩
          refine ⟨_, rfl, _, rfl, ix hsx gx ?_⟩
          refine ⟨_, rfl, _, rfl, ix hsy gy ?_⟩
          refine ⟨vx, vy, ds[i], rfl, dp_same sm dvx, dp_same sm dvy, hn _ (List.getElem_mem hds), ?_, fun H2 s4 => ?_⟩
          · exact shaped_mem (List.getElem_mem hds) (hd.elim (fun z => .inl (z ▸ sd)) (fun z => .inr (z ▸ sd)))
          · refine ⟨_, s4 _ _ eD, ?_, ?_, ?_⟩
            · rw [List.length_map, List.length_replicate]
              exact Nat.lt_of_lt_of_le (show i < 100000 by omega) (by decide)
            · exact same_mut (sm.trans s4) (s2.free nD)
            · rw [upd_same, List.replicate_succ', List.map_append]
              rfl
        · rintro H' ⟨sm, eD⟩
          refine ⟨D, _, rfl, SqL.of eD, ?_⟩
          have e : (List.replicate ((ys.length : Int)).toNat true).all id = true := by simp
          rw [e]
          exact q _ sm
theorem sc__law_trimmed : FnScope ["_law_figures", "_law_found"] ["_law_figures"] (defScope s__law_trimmed) := ⟨rfl, rfl, rfl, by decide +kernel, rfl, by decide +kernel, by decide +kernel⟩
def spTrim (K : PySem.W.Frag) : Sp := fun vs H Q _ => ∃ (a : Addr) (k : Bool) (ns : List Int), vs = [.ref a] ∧ SqK K k H a (ns.map V.int) ∧ ns.length ≤ 10000 ∧ ∀ (H' : Hp) (t : Addr), Same H H' → H t = none → H' t = some (.tup ((trimS ns).map V.int)) → Q (.ref t) H'
theorem ok__law_trimmed {f : Addr} {fd : FuncData} {k : Nat} (F : Fun K "_law_trimmed" "_law_trimmed" s__law_trimmed f fd) (n_list : mg "list" = none) (n_tuple : mg "tuple" = none) : FnOk P w K mg base CX0 (k + 1) f fd ["_law_figures"] (spTrim K) := by
  have sc := sc__law_trimmed
  refine F.ok sc (fun vs H Q E h => ?_) (fun cdv A outer s H vs Q E hr h => ?_)
  · obtain ⟨a, kk, ns, rfl, _⟩ := h
    rfl
  · obtain ⟨a, kk, ns, rfl, hS, hlen, q⟩ := h
    refine ⟨_, (pss_cons (ps_set (i := 1) sc.nd rfl (.inl rfl) (pe_callTy (call_listK K rfl) (by rfl) n_list (by decide +kernel) (pa_cons (pv 0) pa_nil)))
 (pss_cons (ps_while PassesOwn.never (PW.pt (pw_and (pt_cmpR (op_neDK K rfl hr.units) (pv 1) (pe_lst pa_nil) (nomark _)) (pw_and1 (pt_cmpR op_eq (pe_ix (ix_listK K rfl) (pv 1) (pe_un un_neg pe_int) (fun _ _ => rfl)) pe_int (nomark _)))))
  (pss_one (ps_expr (pe_bm0K K rfl PySem.F.plainAttrs_list PySem.F.slot_list_pop PySem.F.type_list_pop mt_pop (pv 1)))))
 (pss_one (ps_ret (pe_callTy (call_tupleK K rfl) (by rfl) n_tuple (by decide +kernel) (pa_cons (pv 1) pa_nil)))))), ?_⟩
    refine ⟨_, rfl, a, _, rfl, SqK.or hS, fun p np => ?_⟩
    have s1 := same_upd (o := .lst (ns.map V.int)) np
    have e1 : upd H p (.lst (ns.map V.int)) p = some (.lst (ns.map V.int)) := upd_same
    generalize upd H p (.lst (ns.map V.int)) = H1 at s1 e1 ⊢
    refine name_by ?_
    dsimp only
    refine seq_by (J := fun σ1 H2 => ∃ m : List Int, σ1 = [some (.ref a), some (.ref p)] ∧ Same H H2 ∧ H2 p = some (.lst (m.map V.int)) ∧ m = trimS ns) ?_ (fun rest => ?_)
    · rintro σ1 H2 ⟨m, rfl, s2, e2, rfl⟩
      refine ⟨_, rfl, p, _, rfl, .inl ⟨SqL.of e2, fun t nt => ?_⟩⟩
      exact q _ t (s2.trans (same_upd nt)) (s2.free nt) upd_same
    · refine while_w (fun σ H' => ∃ m : List Int, σ = [some (.ref a), some (.ref p)] ∧ Same H H' ∧ H' p = some (.lst (m.map V.int)) ∧ trimS m = trimS ns ∧ m.length ≤ ns.length) (fun _ H' => match H' p with | some (.lst l) => l.length | _ => 0) ⟨ns, rfl, s1, e1, rfl, Nat.le_refl _⟩ ?_
      rintro σ H2 ⟨m, rfl, s2, e2, hm, hml⟩
      refine ⟨_, rfl, Nat.zero_le _, fun p3 n3 => ?_⟩
      have s3 := same_upd (o := .lst []) n3
      have e3 := s3 _ _ e2
      refine ⟨_, _, dp_ints (SqL.of e3), dp_ints (ns := []) (SqL.of upd_same), shaped_ints _, shaped_ints _, ?_⟩
      rw [eqv_ints]
      have s23 := s2.trans s3
      generalize upd H2 p3 (.lst []) = H3 at s3 e3 s23 ⊢
      have mu : (match H2 p with | some (.lst l) => l.length | _ => 0) = m.length := by rw [e2]; exact List.length_map ..
      refine ⟨_, rfl, ite2 (fun e => ?_) (fun e => ?_)⟩
      · have e : m ≠ [] := fun z => by rw [z] at e; cases e
        obtain ⟨r, x, rfl⟩ : ∃ r x, m = r ++ [x] := ⟨m.dropLast, m.getLast e, (List.dropLast_concat_getLast e).symm⟩
        have hl : ((r ++ [x]).map V.int).length = r.length + 1 := by simp
        have hg : ((r ++ [x]).map V.int)[r.length]? = some (.int x) := by simp
        refine ⟨_, rfl, 1, rfl, p, _, _, _, rfl, rfl, SqL.of e3, at_last hl hg, rfl, _, rfl, ite2 (fun e4 => ?_) (fun e4 => ?_)⟩
        · have e4 : x = 0 := eq_t e4
          subst e4
          refine ⟨wN _ _ _, wN_ok, ?_⟩
          have em : (r ++ [(0 : Int)]).map V.int = r.map V.int ++ [.int 0] := by rw [List.map_append]; rfl
          rw [em] at e3
          refine ⟨_, rfl, .inl ⟨rfl, _, SqL.of e3⟩, p, _, .int 0, rfl, rfl, e3, by simp, ?_⟩
          rw [List.dropLast_concat]
          refine ⟨⟨r, rfl, fun a o e => ?_, upd_same, by rw [← hm, trimS_zero], by rw [List.length_append] at hml; omega⟩, ?_⟩
          · rw [upd_ne (ne_of_none e np)]
            exact s23 a o e
          · rw [mu]
            dsimp only
            rw [upd_same]
            show (r.map V.int).length < _
            rw [List.length_map, List.length_append]
            exact Nat.lt_succ_self _
        · have e4 : x ≠ 0 := eq_f e4
          exact rest _ _ ⟨_, rfl, s23, e3, by rw [← hm, trimS_last e4]⟩
      · have e : m = [] := by
          by_cases z : m = []
          · exact z
          · exact absurd (by rw [decide_eq_false z]; rfl) e
        subst e
        exact iteF (rest _ _ ⟨[], rfl, s23, e3, by rw [← hm]; rfl⟩)
theorem sc__law_wire_made : FnScope ["_law_state", "_law_first", "_law_second", "_law_third", "_law_fourth"] ["_law_state"] (defScope s__law_wire_made) := ⟨rfl, rfl, rfl, by decide +kernel, rfl, by decide +kernel, by decide +kernel⟩
theorem ok__law_wire_made {f C cT : Addr} {fd : FuncData} {k : Nat} (F : Fun K "_law_wire_made" "_law_wire_made" s__law_wire_made f fd) (cnw_Wire_near_back_far_forth : CalNW P w K mg base k "Wire" C ["self", "forth", "back", "near", "far"] ["near", "back", "far", "forth"] (fun vs zs => vs ++ pickL (zs ++ []) [3, 1, 0, 2]) (spWi K C cT)) : FnOk P w K mg base CX0 (k + 2) f fd ["_law_state"] (spWMade K C) := by
  have sc := sc__law_wire_made
  refine F.ok sc (fun vs H Q E h => ?_) (fun cdv A outer s H vs Q E hr h => ?_)
  · obtain ⟨d, wl, la, lb, p0, p1, p2, p3, ns, ms, rfl, _⟩ := h
    rfl
  · obtain ⟨d, wl, la, lb, p0, p1, p2, p3, ns, ms, rfl, hd, hP, k0, k1, k2, k3, qq⟩ := h
    refine ⟨_, (pss_cons (ps_asg (pe_dget (hu_of hr) (pv 0) pe_str (fun _ _ => rfl)) (pg_lst rfl (pgs_cons (pg_name (i := 1) sc.nd rfl (.inl rfl)) (pgs_cons (pg_name (i := 2) sc.nd rfl (.inl rfl)) (pgs_cons (pg_name (i := 3) sc.nd rfl (.inl rfl)) (pgs_cons (pg_name (i := 4) sc.nd rfl (.inl rfl)) pgs_nil))))))
 (pss_one (ps_ret (pe_makeWF cnw_Wire_near_back_far_forth hr (by rfl) (pk_cons (pv 3) (pk_cons (pv 2) (pk_cons (pv 4) (pk_cons (pv 1) pk_nil)))))))), ?_⟩
    refine ⟨_, rfl, d, _, rfl, get_ways hd.dic, wl, _, rfl, SqL.of hd.ways, rfl, _, _, rfl, _, _, rfl, _, _, rfl, _, _, rfl, rfl, ?_⟩
    refine ⟨_, rfl, _, rfl, _, rfl, _, rfl, rfl, rfl, fun x dx nx ndx nex => ?_⟩
    have up : Same H (upd (upd H dx (.own x)) x (.ins C dx [])) := fun a u e => by rw [upd_ne (ne_of_none e nx), upd_ne (ne_of_none e ndx)]; exact e
    have h0 := same_t up (hP (twW p0) (.head _))
    have h1 := same_t up (hP (twW p1) (.tail _ (.head _)))
    have h2 := same_t up (hP (twW p2) (.tail _ (.tail _ (.head _))))
    have h3 := same_t up (hP (twW p3) (.tail _ (.tail _ (.tail _ (.head _)))))
    refine ⟨x, dx, p0.1, p1.1, p2.1, p3.1, false, false, false, false, p0.2, p1.2, p2.2, p3.2, rfl, upd_same, h0, h1, h2, h3, by have := k0.1; omega, by have := k1.1; omega, by have := k2.1; omega, by have := k3.1; omega, (fun _ H4 f4 p4 q4 m4 np4 nq4 hw4 hf4 => ⟨rfl, ?_⟩), (fun no => absurd ⟨k0.sh, k1.sh, k2.sh, k3.sh⟩ no)⟩
    exact qq H4 x f4 p4 q4 (made_same nx ndx m4) nx (made_none np4) (made_none nq4) hw4 hf4
/-! ### books among things that stand apart -/
theorem dn_ints (ns : List Int) (h : ns.length ≤ 100000) (n : Nat) : Dn (n + 2) (dI ns) := .inr (.inr (.inr (.inr ⟨_, .inl rfl, by rw [List.length_map]; exact h, fun e he => by
  obtain ⟨z, _, rfl⟩ := List.mem_map.mp he
  exact .inr (.inl ⟨z, rfl⟩)⟩)))
theorem in2b {a r b : Addr} (h : a ∈ [r, b]) : a = r ∨ a = b := by simpa using h
section
variable {L L' : List (Addr × List V)} {T0 : List (Addr × Str)} {Ts : List Th} {H H' : Hp} {C r l l' o x dx lt : Addr} {P P' : List WP} {xs ys zs : List V}
theorem Hw.knows (h : Hw K L T0 Ts H) (t : TF K L' H) : Hw K (L' ++ L) T0 Ts H := ⟨h.hs, fun p hp => (List.mem_append.mp hp).elim (t p) (h.tf p)⟩
theorem Hw.bkOp (h : Hw K L T0 Ts H) (i : Nat) (hi : Ts[i]? = some (tBk C r l P)) (m : MvF [r] H H') (nl : H l' = none) (no : H o = none) (nol : o ≠ l') (bk : Bk C r l' P' H') (ht : TF K (knW P') H') (eo : H' o = some (.lst xs)) : Hw K (knW P' ++ L) T0 (tL o xs :: Ts.set i (tBk C r l' P')) H' := by
  have hb : Bk C r l P H := h.get i hi
  obtain ⟨⟨dx, h1⟩, h2⟩ := hb
  refine (h.opNew (T := tBk C r l P) (T' := tBk C r l' P') (N := tL o xs) i hi m (fun a ha => by rw [in1 ha]; exact .inl (.head _)) bk (fun a ha => ?_) ⟨eo, trivial⟩ (fun a ha => ?_)).knows ht
  · rcases in2b ha with rfl | rfl
    · exact .inl (.head _)
    · exact .inr nl
  · rw [in1 ha]
    refine ⟨no, fun z => ?_⟩
    rcases in2b z with y | y
    · rw [y, h1] at no
      cases no
    · exact nol y
theorem Hw.lstOp (h : Hw K L T0 Ts H) (i : Nat) (hi : Ts[i]? = some (tL lt ys)) (m : MvF [lt] H H') (e : H' lt = some (.lst zs)) (ht : TF K L' H') (no : H o = none) (eo : H' o = some (.lst xs)) : Hw K (L' ++ L) T0 (tL o xs :: Ts.set i (tL lt zs)) H' := by
  have hb : H lt = some (.lst ys) := h.at i hi
  refine (h.opNew (T := tL lt ys) (T' := tL lt zs) (N := tL o xs) i hi m (fun a ha => .inl ha) ⟨e, trivial⟩ (fun a ha => .inl ha) ⟨eo, trivial⟩ (fun a ha => ?_)).knows ht
  rw [in1 ha]
  refine ⟨no, fun z => ?_⟩
  rw [in1 z, hb] at no
  cases no
theorem Hw.bkNew (h : Hw K L T0 Ts H) (nx : H x = none) (ndx : H dx = none) (m : MvF [x] (upd (upd H dx (.own x)) x (.ins C dx [])) H') (nl : upd (upd H dx (.own x)) x (.ins C dx []) l = none) (bk : Bk C x l [] H') : Hw K L T0 (tBk C x l [] :: Ts) H' :=
  h.new (T := tBk C x l []) (made_same nx ndx m) bk (fun a ha => by
    rcases in2b ha with rfl | rfl
    · exact nx
    · exact made_none nl)
theorem Hw.bk (h : Hw K L T0 Ts H) (i : Nat) (hi : Ts[i]? = some (tBk C r l P)) : Bk C r l P H := h.get i hi
theorem Hw.newL (h : Hw K L T0 Ts H) (n : H o = none) : Hw K L T0 (tL o xs :: Ts) (upd H o (.lst xs)) := h.newHU (o := .lst xs) n
end
theorem sc_law : FnScope ["_law_script", "_law_bag_here", "_law_turn", "_law_state", "_law_wire", "_law_k", "_law_kept", "_law_rows", "_law_quiet_ones", "_law_loud", "_law_first", "_law_second", "_law_third", "_law_fourth", "_law_handed", "_law_spot", "_law_great", "_law_spoilt", "_law_odd", "_law_each", "_law_one", "_law_other"] ["_law_script"] (defScope s_law) := ⟨rfl, rfl, rfl, by decide +kernel, rfl, by decide +kernel, by decide +kernel⟩
theorem dp_ss {H : Hp} {a : Addr} {x y : Str} (h : H a = some (.tup [.str x, .str y])) : Dp K H (.ref a) (.tuple [.str x, .str y]) := .tup (.inl (.inl h)) (.cons (.str x) (.cons (.str y) .nil))
theorem shaped_ss {x y : Str} (hx : PyData.canLay0 (.str x) = true) (hy : PyData.canLay0 (.str y) = true) : SeqAt.shaped (.tuple [.str x, .str y]) = true := by
  unfold SeqAt.shaped
  rw [Bool.and_eq_true]
  refine ⟨?_, decide_eq_true (by show max 0 (max 0 0) + 1 ≤ 64; decide)⟩
  show (PyData.canLay0 (.str x) && (PyData.canLay0 (.str y) && true)) = true
  rw [hx, hy]
  rfl
theorem lay_BadTaps : PyData.canLay0 (.str "BadTaps") = true := by decide +kernel
theorem lay_BadNoise : PyData.canLay0 (.str "BadNoise") = true := by decide +kernel
theorem lay_refused : PyData.canLay0 (.str "refused") = true := by decide +kernel
abbrev qLam : Str := "law.<locals>.<lambda>"
def spLaw (K : PySem.W.Frag) (tP : Addr) : Sp := fun vs H Q _ => ∃ (a : Addr) (ns : List Int), vs = [.ref a] ∧ SqL K H a (ns.map V.int) ∧ H tP = some (.tbl #[]) ∧ ∀ H', Q (.bl true) H'
theorem ss_same (x y : Str) (hx : PyData.canLay0 (.str x) = true) (hy : PyData.canLay0 (.str y) = true) : (!PyData.eqv (.tuple [.str x, .str y]) (.tuple [.str x, .str y])) = false := by
  rw [SeqAt.eqv_refl _ (SeqAt.canLay_of_shaped (shaped_ss hx hy))]
  rfl
/-- what trained tells, as data -/
def d5 (V : W4) (m : Int) : PyData := .tuple [.tuple (V.forth.map PyData.int), .tuple (V.back.map PyData.int), .tuple (V.near.map PyData.int), .tuple (V.far.map PyData.int), .int m]
theorem dp_five {t t0 t1 t2 t3 : Addr} {V : W4} {m : Int} {H : Hp} (h : SqT K H t [.ref t0, .ref t1, .ref t2, .ref t3, .int m]) (h0 : SqT K H t0 (V.forth.map L2.V.int)) (h1 : SqT K H t1 (V.back.map L2.V.int)) (h2 : SqT K H t2 (V.near.map L2.V.int)) (h3 : SqT K H t3 (V.far.map L2.V.int)) : Dp K H (.ref t) (d5 V m) :=
  .tup h (.cons (.tup h0 (dpa_ints _)) (.cons (.tup h1 (dpa_ints _)) (.cons (.tup h2 (dpa_ints _)) (.cons (.tup h3 (dpa_ints _)) (.cons (.int m) .nil)))))
theorem shaped_five (W : W4) (m : Int) : SeqAt.shaped (d5 W m) = true := by
  unfold SeqAt.shaped d5
  rw [Bool.and_eq_true]
  refine ⟨?_, decide_eq_true ?_⟩
  · show (PyData.canLayAll0 (W.forth.map PyData.int) && (PyData.canLayAll0 (W.back.map PyData.int) && (PyData.canLayAll0 (W.near.map PyData.int) && (PyData.canLayAll0 (W.far.map PyData.int) && true)))) = true
    rw [canLay_ints, canLay_ints, canLay_ints, canLay_ints]
    rfl
  · show max (PyData.depthAll (W.forth.map PyData.int) + 1) (max (PyData.depthAll (W.back.map PyData.int) + 1) (max (PyData.depthAll (W.near.map PyData.int) + 1) (max (PyData.depthAll (W.far.map PyData.int) + 1) (max 0 0)))) + 1 ≤ 64
    rw [depth_ints, depth_ints, depth_ints, depth_ints]
    decide
theorem dn_tupJ {u : List Int} (h : u.length ≤ 100000) (n : Nat) : Dn (n + 2) (.tuple (u.map .int)) := .inr (.inr (.inr (.inr ⟨_, .inr rfl, by rw [List.length_map]; exact h, fun e he => by
  obtain ⟨z, _, rfl⟩ := List.mem_map.mp he
  exact .inr (.inl ⟨z, rfl⟩)⟩)))
theorem dn_five {W : W4} {m : Int} (h : W.Sm) (n : Nat) : Dn (n + 3) (d5 W m) := .inr (.inr (.inr (.inr ⟨_, .inr rfl, (by show 5 ≤ 100000; decide), fun e he => by
  obtain ⟨_, _, _, _, l0, l1, l2, l3⟩ := h
  simp only [List.mem_cons, List.not_mem_nil, or_false] at he
  rcases he with rfl | rfl | rfl | rfl | rfl
  · exact dn_tupJ (by omega) n
  · exact dn_tupJ (by omega) n
  · exact dn_tupJ (by omega) n
  · exact dn_tupJ (by omega) n
  · exact .inr (.inl ⟨_, rfl⟩)⟩)))
def rawW (p0 p1 p2 p3 : WP) : W4 := ⟨trimS p0.2, trimS p1.2, trimS p2.2, trimS p3.2⟩
theorem rawW_trim {p0 p1 p2 p3 : WP} (k0 : okWay p0) (k1 : okWay p1) (k2 : okWay p2) (k3 : okWay p3) : TrimW (rawW p0 p1 p2 p3) := by
  have f := fun (p : WP) (h : okWay p) (x : Int) (hx : x ∈ trimS p.2) => h.2 x (trimS_sub hx)
  exact ⟨⟨f p0 k0, f p1 k1, f p2 k2, f p3 k3, Nat.le_trans (trimS_len _) k0.1, Nat.le_trans (trimS_len _) k1.1, Nat.le_trans (trimS_len _) k2.1, Nat.le_trans (trimS_len _) k3.1⟩, trimS_idem _, trimS_idem _, trimS_idem _, trimS_idem _⟩
theorem TrimW.ok {W : W4} (h : TrimW W) : ok4 W.forth W.back W.near W.far ∧ trimS W.forth = W.forth ∧ trimS W.back = W.back ∧ trimS W.near = W.near ∧ trimS W.far = W.far := by
  obtain ⟨⟨s0, s1, s2, s3, l0, l1, l2, l3⟩, t0, t1, t2, t3⟩ := h
  exact ⟨⟨⟨t0.symm ▸ l0, t0.symm ▸ s0⟩, ⟨t1.symm ▸ l1, t1.symm ▸ s1⟩, ⟨t2.symm ▸ l2, t2.symm ▸ s2⟩, ⟨t3.symm ▸ l3, t3.symm ▸ s3⟩⟩, t0, t1, t2, t3⟩
def LW (f u0 u1 u2 u3 : Addr) (w0 w1 w2 w3 : WP) : List (Addr × List V) := [(f, [.ref u0, .ref u1, .ref u2, .ref u3]), (u0, (trimS w0.2).map L2.V.int), (u1, (trimS w1.2).map L2.V.int), (u2, (trimS w2.2).map L2.V.int), (u3, (trimS w3.2).map L2.V.int), twW w0, twW w1, twW w2, twW w3]
theorem LW_four {f u0 u1 u2 u3 : Addr} {w0 w1 w2 w3 : WP} {L : List (Addr × List V)} {T0 : List (Addr × Str)} {Ts : List Th} {H : Hp} (h : Hw K L T0 Ts H) (hL : ∀ q ∈ LW f u0 u1 u2 u3 w0 w1 w2 w3, q ∈ L) : FourAt K f (rawW w0 w1 w2 w3) H :=
  ⟨u0, u1, u2, u3, h.tf _ (hL _ (.head _)), h.tf _ (hL _ (.tail _ (.head _))), h.tf _ (hL _ (.tail _ (.tail _ (.head _)))), h.tf _ (hL _ (.tail _ (.tail _ (.tail _ (.head _))))), h.tf _ (hL _ (.tail _ (.tail _ (.tail _ (.tail _ (.head _))))))⟩
theorem Hw.extX {L : List (Addr × List L2.V)} {T0 : List (Addr × Str)} {Ts : List Th} {H H' : Hp} (h : Hw K L T0 Ts H) (e : LamX.ExtN H H') (t : LamX.Tabs T0 H') : Hw K L T0 Ts H' :=
  ⟨h.hs.extN e t, fun p hp => by
    rcases h.tf p hp with (z | ⟨o, z⟩) | z
    · exact .inl (.inl (e _ _ z (fun ps y => by cases y)))
    · exact .inl (.inr ⟨o, e _ _ z (fun ps y => by cases y)⟩)
    · exact .inr z⟩
theorem in3w {a p q r : Addr} (h : a ∈ [p, q, r]) : a = p ∨ a = q ∨ a = r := by simpa using h
theorem ok_law {f c tP gD CW cT cS cM cL e12 e0 e1' e2' e3' : Addr} {k n : Nat} {oc : Value} {od an : Option Addr} {osl : Array (Option Value)} {kV doc pm ct : Value} {ocD : Value} {odD anD : Option Addr} {oslD : Array (Option Value)} {kVD docD pmD cdD ctD : Value}
    (lk : K.lookup f = some ⟨oc, od, .func (PySem.W.fnOf "law" "law" (defArgs s_law) (defBody s_law) (defScope s_law) .none kV doc pm an (.ref c) ct), osl⟩) (hcd : PySem.W.codeIn K (.ref c) "law" = true)
    (TB : LamX.TabB base mg c tP) (gL : mg "LineError" = some (.ref cL))
    (lD : K.lookup gD = some ⟨ocD, odD, .func (PySem.W.fnOf "_law_tried" "_law_tried" (defArgs s__law_tried) (defBody s__law_tried) (defScope s__law_tried) .none kVD docD pmD anD cdD ctD), oslD⟩) (hcD : PySem.W.codeIn K cdD "_law_tried" = true) (kD : PySem.W.keepIn K (.ref gD) = true) (mD : mg "_law_tried" = some (.ref gD))
    (bD : Binds K (PySem.W.fnOf "_law_tried" "_law_tried" (defArgs s__law_tried) (defBody s__law_tried) (defScope s__law_tried) .none kVD docD pmD anD cdD ctD) ["_law_act"] [])
    (xT : XfC K cT) (noT_ : PySem.W.findIn K (.ref cT) "word" = some none) (xS : XfC K cS) (noS : PySem.W.findIn K (.ref cS) "word" = some none) (gM : mg "Missing" = some (.ref cM)) (nlT : PySem.W.exmOne K (.ref cT) (.ref cL) = some true) (nlS : PySem.W.exmOne K (.ref cS) (.ref cL) = some true)
    (n_abs : mg "abs" = none) (n_list : mg "list" = none) (n_max : mg "max" = none) (n_range : mg "range" = none) (hE : ∀ H, SqT K H e12 [.int 0, .int 0]) (hE0 : ∀ H, SqT K H e0 []) (hE1 : ∀ H, SqT K H e1' []) (hE2 : ∀ H, SqT K H e2' []) (hE3 : ∀ H, SqT K H e3' [])
    (cnd_Wire : CalND P w K mg base (k + 1) "Wire" CW ["self", "forth", "back", "near", "far"] [.ref e0, .ref e1', .ref e2', .ref e3'] (spWi K CW cT)) (cmd_Wire_beat : CalMD P w K mg base (k + 2) CW "beat" ["self", "one", "other", "noise"] [.ref e12] (spBeat K CW)) (c_Wire_twin : CalM CX0 P w K mg base (k + 2) CW "twin" ["self"] (spWTwin K CW)) (oe_Wire : EqF P w K mg base (k + 1) CW (spWEq K CW))
    (c_trained : CalX P w K mg base (k + 2) "trained" ["wire", "noises"] (spTrain K CW cT cS)) (cl_trained : CalX P w K mg base k "trained" ["wire", "noises"] (spTrain K CW cT cS))
    (c__law_bag : Cal P w K mg base (k + 2) "_law_bag" ["_law_script"] (spBag K)) (c__law_pick : Cal P w K mg base (k + 2) "_law_pick" ["_law_bag_here", "_law_top"] spPick) (c__law_of : Cal P w K mg base (k + 2) "_law_of" ["_law_bag_here", "_law_some"] (spOf K)) (c__law_same : Cal P w K mg base (k + 2) "_law_same" ["_law_found", "_law_due"] (spSame K (n + 3)))
    (c__law_tone : Cal P w K mg base (k + 2) "_law_tone" ["_law_bag_here"] spTone) (c__law_trimmed : Cal P w K mg base (k + 2) "_law_trimmed" ["_law_figures"] (spTrim K)) (c__law_wire_new : Cal P w K mg base (k + 2) "_law_wire_new" ["_law_bag_here"] (spWNew K)) (c__law_wire_made : Cal P w K mg base (k + 2) "_law_wire_made" ["_law_state"] (spWMade K CW)) (c__law_pairs : Cal P w K mg base (k + 2) "_law_pairs" ["_law_bag_here", "_law_size", "_law_most"] (spPairs K)) :
    FnOk P w K mg base CX0 (k + 3) f (PySem.W.fnOf "law" "law" (defArgs s_law) (defBody s_law) (defScope s_law) .none kV doc pm an (.ref c) ct) ["_law_script"] (spLaw K tP) := by
  have sc := sc_law
  refine okL lk hcd sc (fun vs H Q E h => ?_) (fun A outer s H vs Q E hr h => ?_)
  · obtain ⟨a, ns, rfl, _⟩ := h
    rfl
  · obtain ⟨a, ns, rfl, hS, hT0, q⟩ := h
    have LA__law_tried : LamTo (cxOf CX0 P w K mg base ["_law_script", "_law_bag_here", "_law_turn", "_law_state", "_law_wire", "_law_k", "_law_kept", "_law_rows", "_law_quiet_ones", "_law_loud", "_law_first", "_law_second", "_law_third", "_law_fourth", "_law_handed", "_law_spot", "_law_great", "_law_spoilt", "_law_odd", "_law_each", "_law_one", "_law_other"] "law" (defScope s_law) f (.ref c) A outer s H E).nox [(tP, qLam)] "_law_tried" (TTried2 cT "BadTaps" cS "BadNoise") := fun {params body scope t p lpos pos k} hr L hd hbn hbody =>
      LamX.pe_lamcall (by rfl) mD kD lD hcD bD sc__law_tried rfl (.inl rfl) (tried2_gives xT noT_ xS noS gL gM nlT nlS) TB rfl (List.mem_singleton.mpr rfl) (fun p hp _ => by rw [List.mem_singleton.mp hp]; rfl) hr L hd hbn hbody
    refine ⟨_, (pss_cons (ps_set (i := 1) sc.nd rfl (.inl rfl) (pe_callC c__law_bag hr (by rfl) (pa_cons (pv 0) pa_nil)))
 (pss_cons (ps_for PassesOwn.never rfl (pi_range1 (by rfl) n_range (pa_cons pe_int pa_nil)) (pg_name (i := 2) sc.nd rfl (.inl rfl))
  (pss_cons (ps_set (i := 3) sc.nd rfl (.inl rfl) (pe_callC c__law_wire_new hr (by rfl) (pa_cons (pv 1) pa_nil)))
 (pss_cons (ps_set (i := 4) sc.nd rfl (.inr rfl) (pe_callC c__law_wire_made hr (by rfl) (pa_cons (pv 3) pa_nil)))
 (pss_cons (ps_for PassesOwn.never rfl (pi_range1 (by rfl) n_range (pa_cons (pe_callC c__law_pick hr (by rfl) (pa_cons (pv 1) (pa_cons pe_int pa_nil))) pa_nil)) (pg_name (i := 5) sc.nd rfl (.inl rfl))
  (pss_one (ps_expr (pe_methDF (pv 4) cmd_Wire_beat hr (pa_cons (pe_callC c__law_tone hr (by rfl) (pa_cons (pv 1) pa_nil)) (pa_cons (pe_callC c__law_tone hr (by rfl) (pa_cons (pv 1) pa_nil)) pa_nil))))))
 (pss_cons (ps_set (i := 6) sc.nd rfl (.inl rfl) (pe_methC0 (pv 4) c_Wire_twin hr))
 (pss_cons (ps_set (i := 7) sc.nd rfl (.inl rfl) (pe_callC c__law_pairs hr (by rfl) (pa_cons (pv 1) (pa_cons pe_int (pa_cons (pe_ix (ix_listK K rfl) (pe_lst (pa_cons pe_int (pa_cons pe_int (pa_cons pe_int (pa_cons pe_int pa_nil))))) (pe_callC c__law_pick hr (by rfl) (pa_cons (pv 1) (pa_cons pe_int pa_nil))) (fun _ _ => rfl)) pa_nil)))))
 (pss_cons (ps_set (i := 8) sc.nd rfl (.inl rfl) (pe_op op_cat (pe_slice (sl_listK K rfl) (pv 7) (po_some pe_int) (po_some pe_int)) (pe_slice (sl_listK K rfl) (pv 7) (po_some pe_int) po_none)))
 (pss_cons (ps_set (i := 9) sc.nd rfl (.inl rfl) (pe_callB (cr_maxK K rfl rfl) (by rfl) n_max (by decide +kernel) (pa_cons (pe_lc (own := [("_law_one", 20), ("_law_other", 21)]) (g := (gTup K 2 (gCons (gName 20) (gCons (gName 21) gNil)))) (by rfl) sc.nd (pi_listK K rfl (pv 8)) (blkOk_by (own := [("_law_one", 20), ("_law_other", 21)]) (N := ["_law_script", "_law_bag_here", "_law_turn", "_law_state", "_law_wire", "_law_k", "_law_kept", "_law_rows", "_law_quiet_ones", "_law_loud", "_law_first", "_law_second", "_law_third", "_law_fourth", "_law_handed", "_law_spot", "_law_great", "_law_spoilt", "_law_odd", "_law_each", "_law_one", "_law_other"]) (sc := defScope s_law) (by decide +kernel)) (fun _ _ _ _ _ => (pg_tup rfl (pgs_cons (pg_name (i := 20) sc.nd rfl (Or.inl rfl)) (pgs_cons (pg_name (i := 21) sc.nd rfl (Or.inl rfl)) pgs_nil)))) (fun _ _ _ _ _ => pts_nil) (fun _ _ _ _ _ => (pe_callB (call_max2 rfl) (by rfl) n_max (by decide +kernel) (pa_cons (pe_callB call_abs (by rfl) n_abs (by decide +kernel) (pa_cons (pv 20) pa_nil)) (pa_cons (pe_callB call_abs (by rfl) n_abs (by decide +kernel) (pa_cons (pv 21) pa_nil)) pa_nil))))) pa_nil)))
 (pss_cons (ps_asg (pe_lc (own := [("_law_each", 19)]) (g := gName 19) (by rfl) sc.nd (pi_listK K rfl (pe_dget (hu_of hr) (pv 3) pe_str (fun _ _ => rfl))) (blkOk_by (own := [("_law_each", 19)]) (N := ["_law_script", "_law_bag_here", "_law_turn", "_law_state", "_law_wire", "_law_k", "_law_kept", "_law_rows", "_law_quiet_ones", "_law_loud", "_law_first", "_law_second", "_law_third", "_law_fourth", "_law_handed", "_law_spot", "_law_great", "_law_spoilt", "_law_odd", "_law_each", "_law_one", "_law_other"]) (sc := defScope s_law) (by decide +kernel)) (fun _ _ _ _ _ => (pg_name (i := 19) sc.nd rfl (Or.inl rfl))) (fun _ _ _ _ _ => pts_nil) (fun _ _ _ _ _ => (pe_callC c__law_trimmed hr (by rfl) (pa_cons (pv 19) pa_nil)))) (pg_lst rfl (pgs_cons (pg_name (i := 10) sc.nd rfl (.inl rfl)) (pgs_cons (pg_name (i := 11) sc.nd rfl (.inl rfl)) (pgs_cons (pg_name (i := 12) sc.nd rfl (.inl rfl)) (pgs_cons (pg_name (i := 13) sc.nd rfl (.inl rfl)) pgs_nil))))))
 (pss_cons (ps_set (i := 14) sc.nd rfl (.inl rfl) (pe_callTy (call_listK K rfl) (by rfl) n_list (by decide +kernel) (pa_cons (pv 7) pa_nil)))
 (pss_cons (ps_if (pt_not (pt_val (pe_callC c__law_same hr (by rfl) (pa_cons (pe_callF c_trained hr (by rfl) (pa_cons (pv 4) (pa_cons (pv 14) pa_nil))) (pa_cons (pe_tup (pa_cons (pv 10) (pa_cons (pv 11) (pa_cons (pv 12) (pa_cons (pv 13) (pa_cons (pv 9) pa_nil)))))) pa_nil)))))
  (pss_one (ps_ret pe_bl))
  pss_nil)
 (pss_cons (ps_if (PW.pt (pw_or (pt_cmpR (op_neO oe_Wire (hr.mono (by omega))) (pv 4) (pv 6) (nomark _)) (pw_or1 (pt_cmpR (op_neDK K rfl hr.units) (pv 14) (pv 7) (nomark _)))))
  (pss_one (ps_ret pe_bl))
  pss_nil)
 (pss_cons (ps_set (i := 15) sc.nd rfl (.inl rfl) (pe_op op_add (pe_callC c__law_of hr (by rfl) (pa_cons (pv 1) (pa_cons (pe_lst (pa_cons pe_int (pa_cons pe_int pa_nil))) pa_nil))) (pe_callC c__law_pick hr (by rfl) (pa_cons (pv 1) (pa_cons pe_int pa_nil)))))
 (pss_cons (ps_set (i := 16) sc.nd rfl (.inl rfl) (pe_op op_add (pe_callC c__law_of hr (by rfl) (pa_cons (pv 1) (pa_cons (pe_lst (pa_cons pe_int (pa_cons (pe_un un_neg pe_int) pa_nil))) pa_nil))) (pe_callC c__law_pick hr (by rfl) (pa_cons (pv 1) (pa_cons pe_int pa_nil)))))
 (pss_cons (ps_set (i := 17) sc.nd rfl (.inr rfl) (pe_op op_cat (pe_op op_cat (pe_slice (sl_listK K rfl) (pv 7) po_none (po_some (pv 15))) (pe_lst (pa_cons (pe_callC c__law_of hr (by rfl) (pa_cons (pv 1) (pa_cons (pe_lst (pa_cons (pe_tup (pa_cons (pv 16) (pa_cons pe_int pa_nil))) (pa_cons (pe_tup (pa_cons pe_int (pa_cons (pv 16) pa_nil))) pa_nil))) pa_nil))) pa_nil))) (pe_slice (sl_listK K rfl) (pv 7) (po_some (pe_op op_add (pv 15) pe_int)) po_none)))
 (pss_cons (ps_if (PW.pt (pw_or (pt_cmpR (op_neDK K rfl hr.units) (LA__law_tried hr (LamX.lamS_by (sc := defScope s_law) (by decide +kernel)) rfl (fun _ _ _ _ _ => rfl) (fun A outer s H E f c2 hr => (pe_callP cl_trained hr (passes_call (takes_of rfl rfl rfl rfl) (fun _ _ _ _ h => h)) (by rfl) (pa_cons (pv 4) (pa_cons (pv 17) pa_nil))))) (pe_tup (pa_cons pe_str (pa_cons pe_str pa_nil))) (nomark _)) (pw_or1 (pt_cmpR (op_neO oe_Wire (hr.mono (by omega))) (pv 4) (pv 6) (nomark _)))))
  (pss_one (ps_ret pe_bl))
  pss_nil)
 (pss_cons (ps_set (i := 18) sc.nd rfl (.inr rfl) (pe_slice (sl_listK K rfl) (pe_op op_cat (pv 17) (pv 17)) po_none (po_some (pe_callC c__law_of hr (by rfl) (pa_cons (pv 1) (pa_cons (pe_lst (pa_cons pe_int (pa_cons pe_int (pa_cons pe_int (pa_cons pe_int pa_nil))))) pa_nil))))))
 (pss_one (ps_if (PW.pt (pw_or (pt_cmpR (op_neDK K rfl hr.units) (LA__law_tried hr (LamX.lamS_by (sc := defScope s_law) (by decide +kernel)) rfl (fun _ _ _ _ _ => rfl) (fun A outer s H E f c2 hr => (pe_callP cl_trained hr (passes_call (takes_of rfl rfl rfl rfl) (fun _ _ _ _ h => h)) (by rfl) (pa_cons (pv 4) (pa_cons (pv 18) pa_nil))))) (pe_tup (pa_cons pe_str (pa_cons pe_str pa_nil))) (nomark _)) (pw_or1 (pt_cmpR (op_neO oe_Wire (hr.mono (by omega))) (pv 4) (pv 6) (nomark _)))))
  (pss_one (ps_ret pe_bl))
  pss_nil)))))))))))))))))))
 (pss_one (ps_ret (pe_cmpR (op_eqDK K rfl hr.units) (pe_callF c_trained hr (by rfl) (pa_cons (pe_makeDF cnd_Wire hr (by rfl)) (pa_cons (pe_op op_rep (pe_lst (pa_cons (pe_tup (pa_cons pe_int (pa_cons pe_int pa_nil))) pa_nil)) pe_int) pa_nil))) (pe_tup (pa_cons (pe_tup pa_nil) (pa_cons (pe_tup pa_nil) (pa_cons (pe_tup pa_nil) (pa_cons (pe_tup pa_nil) (pa_cons pe_int pa_nil)))))) (nomark _)))))), ?_⟩
    have hT : LamX.Tabs [(tP, qLam)] H := fun p hp => by rw [List.mem_singleton.mp hp]; exact LamX.TabS.nil hT0
    refine ⟨_, rfl, a, ns, rfl, hS, fun H1 b s1 nb hB => ?_⟩
    have h1 : Hw K [] [(tP, qLam)] [tB b] H1 := Hw.of ((Hs.nil (hT.ext s1)).cons hB (fun j y hj => by cases hj))
    refine ⟨2, rfl, by decide, by decide, for_range (lo := 0) (n := 2) (fun i σ H' => (∃ ys : List (Option V), ys.length = 20 ∧ σ = some (.ref a) :: some (.ref b.1) :: ys) ∧ Hw K [] [(tP, qLam)] [tB b] H') ⟨⟨List.replicate 20 none, rfl, rfl⟩, h1⟩ ?_ ?_⟩
    · clear h1 hB s1
      rintro i σ H1 hi ⟨⟨ys, hys, rfl⟩, h1⟩
      obtain ⟨y2, y3, y4, y5, y6, y7, y8, y9, y10, y11, y12, y13, y14, y15, y16, y17, y18, y19, y20, y21, rfl⟩ : ∃ y2 y3 y4 y5 y6 y7 y8 y9 y10 y11 y12 y13 y14 y15 y16 y17 y18 y19 y20 y21, ys = [y2, y3, y4, y5, y6, y7, y8, y9, y10, y11, y12, y13, y14, y15, y16, y17, y18, y19, y20, y21] := by
        match ys, hys with
        | [y2, y3, y4, y5, y6, y7, y8, y9, y10, y11, y12, y13, y14, y15, y16, y17, y18, y19, y20, y21], _ => exact ⟨_, _, _, _, _, _, _, _, _, _, _, _, _, _, _, _, _, _, _, _, rfl⟩
      -- the law's wire
      refine ⟨_, rfl, b, rfl, h1.bag, fun H2 d wl la lb PW mv2 hB2 nw2 hws2 tf2 hl2 hok2 => ?_⟩
      have h2 := (h1.newMT (N := tWs K d wl la lb PW [] []) mv2 hB2 hws2 nw2).knows tf2
      clear h1 mv2 hB2 nw2 hws2 tf2
      obtain ⟨w0, w1, w2, w3, rfl⟩ : ∃ w0 w1 w2 w3, PW = [w0, w1, w2, w3] := by
        match PW, hl2 with
        | [w0, w1, w2, w3], _ => exact ⟨_, _, _, _, rfl⟩
      have k0 := hok2 w0 (.head _)
      have k1 := hok2 w1 (.tail _ (.head _))
      have k2 := hok2 w2 (.tail _ (.tail _ (.head _)))
      have k3 := hok2 w3 (.tail _ (.tail _ (.tail _ (.head _))))
      have hW := rawW_trim k0 k1 k2 k3
      refine name_by ?_
      dsimp only
      -- the wire
      have tf2 : TF K (knW [w0, w1, w2, w3]) H2 := fun p hp => h2.tf p (List.mem_append_left _ hp)
      refine ⟨_, rfl, d, wl, la, lb, w0, w1, w2, w3, [], [], rfl, h2.get 0 rfl, tf2, k0, k1, k2, k3, fun H3 x f3 p3 q3 s3 nx np3 nq3 hw3 hF3 => ?_⟩
      obtain ⟨u0, u1, u2, u3, hu, hu0, hu1, hu2, hu3⟩ : ∃ u0 u1 u2 u3 : Addr, SqT K H3 f3 [.ref u0, .ref u1, .ref u2, .ref u3] ∧ SqT K H3 u0 ((trimS w0.2).map L2.V.int) ∧ SqT K H3 u1 ((trimS w1.2).map L2.V.int) ∧ SqT K H3 u2 ((trimS w2.2).map L2.V.int) ∧ SqT K H3 u3 ((trimS w3.2).map L2.V.int) := by
        obtain ⟨t0, t1, t2, t3, h, a0, a1, a2, a3⟩ := hF3
        exact ⟨t0, t1, t2, t3, h, a0, a1, a2, a3⟩
      have h3 : Hw K (LW f3 u0 u1 u2 u3 w0 w1 w2 w3) [(tP, qLam)] [tB b, tWr CW x f3 p3 q3 z4 z4, tWs K d wl la lb [w0, w1, w2, w3] [] []] H3 :=
        ((((((h2.new (T := tWr CW x f3 p3 q3 z4 z4) s3 hw3 (fun a ha => by
          rcases in3w ha with rfl | rfl | rfl
          · exact nx
          · exact np3
          · exact nq3)).know hu3).know hu2).know hu1).know hu0).know hu).sel [2, 0, 1] (by decide)
      clear h2 s3 hw3 hF3 hu hu0 hu1 hu2 hu3 nx np3 nq3 tf2
      refine name_by ?_
      dsimp only
      -- some tones
      refine ⟨_, rfl, b, 4, rfl, h3.bag, by decide, by decide, fun H4 d4 mv4 hB4 d40 d41 => ⟨_, rfl, by omega, by omega, ?_⟩⟩
      have h4 := h3.mv mv4 hB4
      clear h3 mv4 hB4
      refine for_range (lo := 0) (n := d4.toNat) (fun j σ H' => ∃ (y5 : Option V) (p q : Addr) (ns ms : List Int), σ = [some (.ref a), some (.ref b.1), some (.int (0 + (i : Int))), some (.ref d), some (.ref x), y5, y6, y7, y8, y9, y10, y11, y12, y13, y14, y15, y16, y17, y18, y19, y20, y21] ∧ Hw K (LW f3 u0 u1 u2 u3 w0 w1 w2 w3) [(tP, qLam)] [tB b, tWr CW x f3 p q ns ms, tWs K d wl la lb [w0, w1, w2, w3] [] []] H') ⟨_, p3, q3, z4, z4, rfl, h4⟩ ?_ ?_
      · clear h4
        rintro j σ H1 hj ⟨y5, p, q, ns, ms, rfl, h1⟩
        obtain ⟨⟨dx, hins⟩, _⟩ : Wr CW x f3 p q ns ms H1 := h1.get 1 rfl
        refine ⟨_, rfl, x, dx, _, rfl, hins, rfl, _, rfl, b, rfl, h1.bag, fun H2 z1 mv2 hB2 _ => ?_⟩
        have h2 := h1.mv mv2 hB2
        refine ⟨_, rfl, b, rfl, h2.bag, fun H3 z2 mv3 hB3 _ => ?_⟩
        have h3 := h2.mv mv3 hB3
        clear h1 h2 mv2 mv3 hB2 hB3 hins
        refine ⟨x, f3, p, q, e12, false, ns, ms, rawW w0 w1 w2 w3, z1, z2, 0, 0, rfl, h3.get 1 rfl, LW_four h3 (fun q hq => hq), hW.sm, hE _, fun H4 t p' q' m4 nt np nq hw4 et => ?_⟩
        refine ⟨_, p', q', z1 :: ns.take 3, z2 :: ms.take 3, rfl, ?_⟩
        exact h3.op (T := tWr CW x f3 p q ns ms) (T' := tWr CW x f3 p' q' (z1 :: ns.take 3) (z2 :: ms.take 3)) 1 rfl m4 (fun a ha => by rw [in1 ha]; exact .inl (.head _)) hw4 (fun a ha => by
          rcases in3w ha with rfl | rfl | rfl
          · exact .inl (.head _)
          · exact .inr np
          · exact .inr nq)
      clear h4
      rintro σ H5 ⟨y5, p5, q5, ns, ms, rfl, h5⟩
      -- a twin
      obtain ⟨l0, l1, l2, l3⟩ := hW.sm.2.2.2.2
      obtain ⟨hok4, tr0, tr1', tr2', tr3⟩ := hW.ok
      obtain ⟨⟨dx, hins⟩, _⟩ : Wr CW x f3 p5 q5 ns ms H5 := h5.get 1 rfl
      refine ⟨_, rfl, x, dx, _, rfl, hins, rfl, x, f3, p5, q5, ns, ms, rawW w0 w1 w2 w3, rfl, h5.get 1 rfl, LW_four h5 (fun q hq => hq), hok4, by omega, by omega, by omega, by omega, fun H6 x6 f6 p6 q6 s6 nx6 np6 nq6 hw6 hF6 => ?_⟩
      rw [tr0, tr1', tr2', tr3] at hF6
      have eW6 : (⟨(rawW w0 w1 w2 w3).forth, (rawW w0 w1 w2 w3).back, (rawW w0 w1 w2 w3).near, (rawW w0 w1 w2 w3).far⟩ : W4) = rawW w0 w1 w2 w3 := rfl
      rw [eW6] at hF6
      obtain ⟨v0, v1, v2, v3, hv, hv0, hv1, hv2, hv3⟩ : ∃ v0 v1 v2 v3 : Addr, SqT K H6 f6 [.ref v0, .ref v1, .ref v2, .ref v3] ∧ SqT K H6 v0 ((trimS w0.2).map L2.V.int) ∧ SqT K H6 v1 ((trimS w1.2).map L2.V.int) ∧ SqT K H6 v2 ((trimS w2.2).map L2.V.int) ∧ SqT K H6 v3 ((trimS w3.2).map L2.V.int) := by
        obtain ⟨t0, t1, t2, t3, h, a0, a1, a2, a3⟩ := hF6
        exact ⟨t0, t1, t2, t3, h, a0, a1, a2, a3⟩
      have h6 : Hw K (LW f6 v0 v1 v2 v3 w0 w1 w2 w3 ++ LW f3 u0 u1 u2 u3 w0 w1 w2 w3) [(tP, qLam)] [tB b, tWr CW x6 f6 p6 q6 ns ms, tWr CW x f3 p5 q5 ns ms, tWs K d wl la lb [w0, w1, w2, w3] [] []] H6 :=
        ((((((((h5.new (T := tWr CW x6 f6 p6 q6 ns ms) s6 hw6 (fun a ha => by
          rcases in3w ha with rfl | rfl | rfl
          · exact nx6
          · exact np6
          · exact nq6)).sel [1, 0, 2, 3] (by decide)).knows (L' := knW [w0, w1, w2, w3]) (fun p hp => h5.same s6 |>.tf p (by
            simp only [LW, knW, List.map_cons, List.map_nil, List.mem_cons, List.not_mem_nil, or_false] at hp ⊢
            rcases hp with h | h | h | h <;> simp [h]))).know hv3).know hv2).know hv1).know hv0).know hv)
      clear h5 s6 hw6 hF6 nx6 np6 nq6 hv hv0 hv1 hv2 hv3 eW6
      refine name_by ?_
      dsimp only
      -- rows of noises
      have hpick : ∀ z : Int, 0 ≤ z → z < 4 → ∃ m : Int, atI [V.int 499, V.int 40, V.int 3, V.int 0] z = some (.int m) ∧ 0 ≤ m ∧ m < 500 := fun z h0 h1 => by
        have : z = 0 ∨ z = 1 ∨ z = 2 ∨ z = 3 := by omega
        rcases this with rfl | rfl | rfl | rfl
        · exact ⟨499, rfl, by decide, by decide⟩
        · exact ⟨40, rfl, by decide, by decide⟩
        · exact ⟨3, rfl, by decide, by decide⟩
        · exact ⟨0, rfl, by decide, by decide⟩
      refine ⟨_, rfl, (by show 4 ≤ sizeLine; decide), fun pm nm => ?_⟩
      have h7 := h6.newU (o := .lst [.int 499, .int 40, .int 3, .int 0]) nm
      generalize upd H6 pm (.lst [.int 499, .int 40, .int 3, .int 0]) = H7 at h7 ⊢
      refine ⟨_, rfl, b, 4, rfl, h7.bag, by decide, by decide, fun H8 d8 mv8 hB8 d80 d81 => ?_⟩
      have h8 := h7.mv mv8 hB8
      obtain ⟨m, hm, hm0, hm1⟩ := hpick d8 d80 d81
      refine ⟨pm, _, _, _, rfl, rfl, SqL.of (h8.at 1 rfl), hm, b, 20, m, rfl, h8.bag, by decide, hm0, by omega, fun H9 l P mv9 hB9 nl el tfP hPl hP => ?_⟩
      have h9 : Hw K (knW P ++ (LW f6 v0 v1 v2 v3 w0 w1 w2 w3 ++ LW f3 u0 u1 u2 u3 w0 w1 w2 w3)) [(tP, qLam)] [tB b, tL l (refsW P), tWr CW x6 f6 p6 q6 ns ms, tWr CW x f3 p5 q5 ns ms, tWs K d wl la lb [w0, w1, w2, w3] [] []] H9 := ((h8.newM mv9 hB9 nl el).knows tfP).sel [0, 1, 3, 4, 5] (by decide)
      clear h6 h7 h8 mv8 hB8 mv9 hB9 nl el tfP nm hpick hm
      refine name_by ?_
      dsimp only
      -- the quiet ones
      refine ⟨_, rfl, 5, rfl, 10, rfl, l, _, rfl, SqL.of (h9.at 1 rfl), fun pa na => ?_⟩
      rw [show cutV (refsW P) (some 5) (some 10) = refsW ((P.drop 5).take 5) from cutR P 5 10 (by decide)]
      have h10 := h9.newU (o := .lst (refsW ((P.drop 5).take 5))) na
      generalize upd H9 pa (.lst (refsW ((P.drop 5).take 5))) = H10 at h10 ⊢
      refine ⟨_, rfl, 15, rfl, l, _, rfl, SqL.of (h10.at 2 rfl), fun pb nb => ?_⟩
      rw [show cutV (refsW P) (some 15) none = refsW (P.drop 15) from cutRf P 15]
      have h11 := h10.newU (o := .lst (refsW (P.drop 15))) nb
      generalize upd H10 pb (.lst (refsW (P.drop 15))) = H11 at h11 ⊢
      have lq : (refsW ((P.drop 5).take 5)).length + (refsW (P.drop 15)).length ≤ sizeLine := by
        rw [List.length_map, List.length_map, List.length_take, List.length_drop, List.length_drop, hPl]
        decide
      refine ⟨pa, pb, _, _, rfl, rfl, h11.at 2 rfl, h11.at 1 rfl, lq, fun pq nq => ?_⟩
      rw [show refsW ((P.drop 5).take 5) ++ refsW (P.drop 15) = refsW (quietP P) from List.map_append.symm]
      have h12 : Hw K (knW P ++ (LW f6 v0 v1 v2 v3 w0 w1 w2 w3 ++ LW f3 u0 u1 u2 u3 w0 w1 w2 w3)) [(tP, qLam)] [tB b, tL pq (refsW (quietP P)), tL l (refsW P), tWr CW x6 f6 p6 q6 ns ms, tWr CW x f3 p5 q5 ns ms, tWs K d wl la lb [w0, w1, w2, w3] [] []] (upd H11 pq (.lst (refsW (quietP P)))) := (h11.newU (o := .lst (refsW (quietP P))) nq).sel [0, 1, 4, 5, 6, 7] (by decide)
      generalize upd H11 pq (.lst (refsW (quietP P))) = H12 at h12 ⊢
      clear h9 h10 h11 na nb nq lq
      refine name_by ?_
      dsimp only
      have hql : (quietP P).length = 10 := by
        unfold quietP
        rw [List.length_append, List.length_take, List.length_drop, List.length_drop, hPl]
        rfl
      have hnz := nzOk_of hP
      have hsub : ∀ p ∈ quietP P, p ∈ P := fun p hp => by
        obtain ⟨j, _, e⟩ := (mem_quiet hPl).mp hp
        exact List.mem_of_getElem? e
      -- how loud
      refine ⟨_, rfl, pq, rfl, ⟨_, SqL.of (h12.at 1 rfl)⟩, fun D nD => lc_list (K := K) (a := pq) (xs := refsW (quietP P)) (fun j H' => Same H12 H' ∧ H' D = some (.lst ((((quietP P).take j).map mxP).map V.int))) ⟨same_upd nD, upd_same⟩ (fun j H' _ h => SqL.of (h.1 _ _ (h12.at 1 rfl))) ?_ ?_⟩
      · rintro j v H13 hv ⟨s13, eD⟩
        obtain ⟨pr, hpr, rfl⟩ := refsW_at hv
        have hpm := hsub pr (List.mem_of_getElem? hpr)
        obtain ⟨za, zb, ez, _⟩ := hP pr hpm
        have ht : SqT K H13 pr.1 [.int za, .int zb] := by
          have := (h12.same s13).tf (twW pr) (List.mem_append_left _ (List.mem_map.mpr ⟨pr, hpm, rfl⟩))
          have e : (twW pr).2 = [.int za, .int zb] := by show pr.2.map L2.V.int = _; rw [ez]; rfl
          rw [e] at this
          exact this
        refine ⟨pr.1, _, rfl, ht, rfl, _, _, rfl, _, _, rfl, rfl, rfl, tYes_by (iteT ?_)⟩
        refine ⟨_, rfl, za, rfl, _, rfl, zb, rfl, _, _, rfl, _, eD, ?_, same_mut s13 nD, ?_⟩
        · rw [List.length_map, List.length_map, List.length_take, hql]
          exact sz4l (by omega)
        · have em : mxP pr = max2I (absI za) (absI zb) := by unfold mxP; rw [ez]; rfl
          rw [upd_same, take_more hpr, List.map_append, List.map_append]
          show some (HO.lst _) = some (HO.lst (_ ++ [V.int (mxP pr)]))
          rw [em]
          rfl
      rintro H13 ⟨s13, eD⟩
      rw [List.length_map, List.take_length] at eD
      have h13 : Hw K (knW P ++ (LW f6 v0 v1 v2 v3 w0 w1 w2 w3 ++ LW f3 u0 u1 u2 u3 w0 w1 w2 w3)) [(tP, qLam)] [tB b, tL l (refsW P), tWr CW x6 f6 p6 q6 ns ms, tWr CW x f3 p5 q5 ns ms, tWs K d wl la lb [w0, w1, w2, w3] [] []] H13 := (h12.same s13).sel [0, 2, 3, 4, 5] (by decide)
      refine ⟨D, (quietP P).map mxP, rfl, SqL.of eD, by rw [List.length_map, hql]; decide, fun lo hlo1 hlo2 => ?_⟩
      clear h12 s13 eD nD
      refine name_by ?_
      dsimp only
      -- shares, trimmed
      have hws : Wsd K d wl la lb [w0, w1, w2, w3] [] [] H13 := h13.get 4 rfl
      have htw : ∀ p ∈ [w0, w1, w2, w3], SqT K H13 p.1 (p.2.map L2.V.int) := fun p hp => h13.tf (twW p) (List.mem_append_right _ (List.mem_append_right _ (by
        simp only [LW, List.mem_cons, List.not_mem_nil, or_false] at hp ⊢
        rcases hp with h | h | h | h <;> simp [h])))
      have hok2' := hok2
      refine ⟨_, rfl, d, _, rfl, get_ways hws.dic, wl, rfl, ⟨_, SqL.of hws.ways⟩, fun D2 nD2 => lc_list (K := K) (a := wl) (xs := refsW [w0, w1, w2, w3]) (fun j H' => ∃ PT : List WP, Same H13 H' ∧ H' D2 = some (.lst (refsW PT)) ∧ TF K (knW PT) H' ∧ wsOf PT = ([w0, w1, w2, w3].take j).map (fun p => trimS p.2)) ⟨[], same_upd nD2, upd_same, tf_nil, rfl⟩ (fun j H' _ h => by obtain ⟨_, h, _⟩ := h; exact SqL.of (h _ _ hws.ways)) ?_ ?_⟩
      · rintro j v H14 hv ⟨PT, s14, eD2, tT, eT⟩
        obtain ⟨pr, hpr, rfl⟩ := refsW_at hv
        have hpm := List.mem_of_getElem? hpr
        refine ⟨rfl, tYes_by (iteT ?_)⟩
        refine ⟨_, rfl, pr.1, false, pr.2, rfl, same_t s14 (htw pr hpm), by have := (hok2 pr hpm).1; omega, fun H15 t s15 nt et => ?_⟩
        refine ⟨_, s15 _ _ eD2, ?_, PT ++ [(t, trimS pr.2)], same_mut (s14.trans s15) nD2, ?_, ?_, ?_⟩
        · rw [List.length_map, ← wsOf_len, eT, List.length_map, List.length_take]
          exact sz4l (by show min j 4 < _; omega)
        · rw [upd_same]
          unfold refsW
          rw [List.map_append]
          rfl
        · refine TF.mvf (F := [D2]) ((MvF.refl [D2] H15).upd (.head _)) (fun a ha o e => ?_) (tf_snoc (tT.same s15) (SqT.of et))
          rw [in1 ha, s15 _ _ eD2] at e
          cases e
          trivial
        · rw [wsOf_app, eT, take_more hpr, List.map_append]
          rfl
      rintro H14 ⟨PT, s14, eD2, tT, eT⟩
      have eT : wsOf PT = [trimS w0.2, trimS w1.2, trimS w2.2, trimS w3.2] := eT
      obtain ⟨q0, q1, q2, q3, rfl⟩ : ∃ q0 q1 q2 q3, PT = [q0, q1, q2, q3] := by
        have hl : PT.length = 4 := by rw [← wsOf_len, eT]; rfl
        match PT, hl with
        | [q0, q1, q2, q3], _ => exact ⟨_, _, _, _, rfl⟩
      have eT : [q0.2, q1.2, q2.2, q3.2] = [trimS w0.2, trimS w1.2, trimS w2.2, trimS w3.2] := eT
      injection eT with e0' eT
      injection eT with e1x eT
      injection eT with e2x eT
      injection eT with e3x _
      have h14 : Hw K (knW [q0, q1, q2, q3] ++ (knW P ++ (LW f6 v0 v1 v2 v3 w0 w1 w2 w3 ++ LW f3 u0 u1 u2 u3 w0 w1 w2 w3))) [(tP, qLam)] [tB b, tL l (refsW P), tWr CW x6 f6 p6 q6 ns ms, tWr CW x f3 p5 q5 ns ms] H14 := ((h13.same s14).knows tT).sel [0, 1, 2, 3] (by decide)
      refine ⟨D2, _, rfl, SqL.of eD2, rfl, _, _, rfl, _, _, rfl, _, _, rfl, _, _, rfl, rfl, ?_⟩
      clear h13 hws htw s14 eD2 tT nD2
      dsimp only
      -- handed
      refine ⟨_, rfl, l, _, rfl, .inl (SqL.of (h14.at 1 rfl)), fun hd nhd => ?_⟩
      have h15 : Hw K (knW [q0, q1, q2, q3] ++ (knW P ++ (LW f6 v0 v1 v2 v3 w0 w1 w2 w3 ++ LW f3 u0 u1 u2 u3 w0 w1 w2 w3))) [(tP, qLam)] [tB b, tL hd (refsW P), tL l (refsW P), tWr CW x6 f6 p6 q6 ns ms, tWr CW x f3 p5 q5 ns ms] (upd H14 hd (.lst (refsW P))) := h14.newU (o := .lst (refsW P)) nhd
      generalize upd H14 hd (.lst (refsW P)) = H15 at h15 ⊢
      clear h14 nhd
      refine name_by ?_
      dsimp only
      -- trained
      have hquiet := quiet_of hm1 hP hPl
      obtain ⟨g0, g1, g2, g3⟩ := tr_good hW hquiet
      have subP : ∀ {H : Hp} {Ts : List Th}, Hw K (knW [q0, q1, q2, q3] ++ (knW P ++ (LW f6 v0 v1 v2 v3 w0 w1 w2 w3 ++ LW f3 u0 u1 u2 u3 w0 w1 w2 w3))) [(tP, qLam)] Ts H → TF K (knW P) H := fun h p hp => h.tf p (List.mem_append_right _ (List.mem_append_left _ hp))
      have sub3 : ∀ {H : Hp} {Ts : List Th}, Hw K (knW [q0, q1, q2, q3] ++ (knW P ++ (LW f6 v0 v1 v2 v3 w0 w1 w2 w3 ++ LW f3 u0 u1 u2 u3 w0 w1 w2 w3))) [(tP, qLam)] Ts H → FourAt K f3 (rawW w0 w1 w2 w3) H := fun h => LW_four h (fun q hq => List.mem_append_right _ (List.mem_append_right _ (List.mem_append_right _ hq)))
      have sub6 : ∀ {H : Hp} {Ts : List Th}, Hw K (knW [q0, q1, q2, q3] ++ (knW P ++ (LW f6 v0 v1 v2 v3 w0 w1 w2 w3 ++ LW f3 u0 u1 u2 u3 w0 w1 w2 w3))) [(tP, qLam)] Ts H → FourAt K f6 (rawW w0 w1 w2 w3) H := fun h => LW_four h (fun q hq => List.mem_append_right _ (List.mem_append_right _ (List.mem_append_left _ hq)))
      have hid : wSame (rawW w0 w1 w2 w3) (rawW w0 w1 w2 w3) ns ns ms ms = true := by unfold wSame; rw [decide_eq_true rfl, decide_eq_true rfl, decide_eq_true (show (rawW w0 w1 w2 w3).same (rawW w0 w1 w2 w3) from ⟨rfl, rfl, rfl, rfl⟩)]; rfl
      refine ⟨_, rfl, _, rfl, x, f3, p5, q5, hd, true, ns, ms, rawW w0 w1 w2 w3, P, rfl, h15.get 4 rfl, sub3 h15, hW.ok, SqL.of (h15.at 1 rfl), subP h15, hnz, by omega, (fun _ V m' ok16 H16 t t0 t1 t2 t3 s16 nt et ht0 ht1 ht2 ht3 => ?_), (fun _ bad => by rcases bad with e | e | e | e <;> simp_all), (fun no => absurd hPl no)⟩
      have eV0 : V.forth = trimS w0.2 := Option.some.inj (ok16.forth.symm.trans g0)
      have eV1 : V.back = trimS w1.2 := Option.some.inj (ok16.back.symm.trans g1)
      have eV2 : V.near = trimS w2.2 := Option.some.inj (ok16.near.symm.trans g2)
      have eV3 : V.far = trimS w3.2 := Option.some.inj (ok16.far.symm.trans g3)
      have em : m' = lo := loud_is hPl ok16.mem ok16.max hlo1 hlo2
      subst em
      have h16 := h15.same s16
      refine ⟨_, rfl, _, rfl, _, rfl, _, rfl, _, rfl, (by show 5 ≤ sizeLine; decide), fun t' nt' => ?_⟩
      have s17 := same_upd (o := .tup [.ref q0.1, .ref q1.1, .ref q2.1, .ref q3.1, .int m']) nt'
      have h17 := h16.same s17
      have kq : ∀ p ∈ [q0, q1, q2, q3], SqT K H16 p.1 (p.2.map L2.V.int) := fun p hp => h16.tf (twW p) (List.mem_append_left _ (List.mem_map.mpr ⟨p, hp, rfl⟩))
      have c0 := kq q0 (.head _)
      have c1 := kq q1 (.tail _ (.head _))
      have c2 := kq q2 (.tail _ (.tail _ (.head _)))
      have c3 := kq q3 (.tail _ (.tail _ (.tail _ (.head _))))
      rw [e0', ← eV0] at c0
      rw [e1x, ← eV1] at c1
      rw [e2x, ← eV2] at c2
      rw [e3x, ← eV3] at c3
      have dV : Dn (n + 3) (d5 V m') := dn_five (W := V) (by
        obtain ⟨a0, a1, a2, a3, l0, l1, l2, l3⟩ := hW.sm
        exact ⟨fun x hx => a0 x (by rw [eV0] at hx; exact hx), fun x hx => a1 x (by rw [eV1] at hx; exact hx), fun x hx => a2 x (by rw [eV2] at hx; exact hx), fun x hx => a3 x (by rw [eV3] at hx; exact hx), by rw [eV0]; exact l0, by rw [eV1]; exact l1, by rw [eV2]; exact l2, by rw [eV3]; exact l3⟩) n
      refine ⟨.ref t, .ref t', d5 V m', rfl, dp_five (SqT.of (s17 _ _ et)) (same_t s17 ht0) (same_t s17 ht1) (same_t s17 ht2) (same_t s17 ht3), dp_five (SqT.of upd_same) (same_t s17 c0) (same_t s17 c1) (same_t s17 c2) (same_t s17 c3), dV, shaped_five _ _, fun H18 s18 => ⟨_, rfl, iteF ?_⟩⟩
      have h18 := h17.same s18
      clear h15 h16 h17 s16 s17 s18 nt et ht0 ht1 ht2 ht3 c0 c1 c2 c3 kq dV nt'
      -- the wire and the rows stay
      obtain ⟨⟨dxk, hik⟩, _⟩ : Wr CW x6 f6 p6 q6 ns ms H18 := h18.get 3 rfl
      obtain ⟨⟨dxw, hiw⟩, _⟩ : Wr CW x f3 p5 q5 ns ms H18 := h18.get 4 rfl
      refine ⟨_, rfl, _, rfl, x, dxw, _, x6, dxk, _, rfl, rfl, hiw, hik, .inl ⟨x, f3, p5, q5, x6, f6, p6, q6, ns, ms, ns, ms, rawW w0 w1 w2 w3, rawW w0 w1 w2 w3, rfl, h18.get 4 rfl, h18.get 3 rfl, sub3 h18, sub6 h18, _, rfl, ?_⟩⟩
      rw [hid]
      refine ⟨_, rfl, iteF ?_⟩
      refine ⟨_, rfl, _, rfl, dW (wsOf P), dW (wsOf P), dp_words (SqL.of (h18.at 1 rfl)) (subP h18), dp_words (SqL.of (h18.at 2 rfl)) (subP h18), shaped_words _, shaped_words _, ?_⟩
      rw [eqv_words, decide_eq_true rfl]
      refine ⟨_, rfl, iteF ?_⟩
      have h19 : Hw K (knW P ++ (LW f6 v0 v1 v2 v3 w0 w1 w2 w3 ++ LW f3 u0 u1 u2 u3 w0 w1 w2 w3)) [(tP, qLam)] [tB b, tL l (refsW P), tWr CW x6 f6 p6 q6 ns ms, tWr CW x f3 p5 q5 ns ms] H18 := (h18.sel [0, 2, 3, 4] (by decide)).selT (fun q hq => List.mem_append_right _ hq)
      clear h18 hik hiw subP sub3 sub6
      -- the spot
      refine ⟨_, rfl, (by show 2 ≤ sizeLine; decide), fun ps nps => ?_⟩
      have h20 := h19.newU (o := .lst [.int 0, .int 10]) nps
      generalize upd H18 ps (.lst [.int 0, .int 10]) = H20 at h20 ⊢
      refine ⟨b, ps, _, rfl, h20.bag, h20.hs.ne 1 0 rfl rfl (.head _) (.head _), h20.at 1 rfl, (by show 0 < 2; decide), (by show 2 < 1000; decide), fun H21 sv mv21 hB21 hsv => ?_⟩
      have h21 : Hw K (knW P ++ (LW f6 v0 v1 v2 v3 w0 w1 w2 w3 ++ LW f3 u0 u1 u2 u3 w0 w1 w2 w3)) [(tP, qLam)] [tB b, tL l (refsW P), tWr CW x6 f6 p6 q6 ns ms, tWr CW x f3 p5 q5 ns ms] H21 := (h20.mv mv21 hB21).sel [0, 2, 3, 4] (by decide)
      clear h19 h20 mv21 hB21 nps
      refine ⟨_, rfl, b, 5, rfl, h21.bag, by decide, by decide, fun H22 d22 mv22 hB22 d220 d221 => ?_⟩
      have h22 := h21.mv mv22 hB22
      obtain ⟨sp, rfl, hsp⟩ : ∃ z : Nat, sv = .int ((z : Int) - d22) ∧ (z < 5 ∨ (10 ≤ z ∧ z < 15)) := by
        simp only [List.mem_cons, List.not_mem_nil, or_false] at hsv
        rcases hsv with rfl | rfl
        · exact ⟨d22.toNat, by rw [show ((d22.toNat : Nat) : Int) - d22 = 0 by omega], .inl (by omega)⟩
        · exact ⟨(10 + d22).toNat, by rw [show (((10 + d22).toNat : Nat) : Int) - d22 = 10 by omega], .inr ⟨by omega, by omega⟩⟩
      refine ⟨_, _, rfl, rfl, ?_⟩
      refine name_by ?_
      dsimp only
      rw [show (sp : Int) - d22 + d22 = (sp : Int) by omega]
      clear h21 mv22 hB22 hsv d220 d221
      -- how great
      refine ⟨_, rfl, 9000, rfl, (by show 2 ≤ sizeLine; decide), fun pg npg => ?_⟩
      have h23 := h22.newU (o := .lst [.int 9000, .int (-9000)]) npg
      generalize upd H22 pg (.lst [.int 9000, .int (-9000)]) = H23 at h23 ⊢
      refine ⟨b, pg, _, rfl, h23.bag, h23.hs.ne 1 0 rfl rfl (.head _) (.head _), h23.at 1 rfl, (by show 0 < 2; decide), (by show 2 < 1000; decide), fun H24 gv mv24 hB24 hgv => ?_⟩
      have h24 : Hw K (knW P ++ (LW f6 v0 v1 v2 v3 w0 w1 w2 w3 ++ LW f3 u0 u1 u2 u3 w0 w1 w2 w3)) [(tP, qLam)] [tB b, tL l (refsW P), tWr CW x6 f6 p6 q6 ns ms, tWr CW x f3 p5 q5 ns ms] H24 := (h23.mv mv24 hB24).sel [0, 2, 3, 4] (by decide)
      clear h22 h23 mv24 hB24 npg
      refine ⟨_, rfl, b, 400, rfl, h24.bag, by decide, by decide, fun H25 d25 mv25 hB25 d250 d251 => ?_⟩
      have h25 := h24.mv mv25 hB25
      obtain ⟨g, rfl, hg⟩ : ∃ z : Int, gv = .int (z - d25) ∧ farOff z := by
        simp only [List.mem_cons, List.not_mem_nil, or_false] at hgv
        rcases hgv with rfl | rfl
        · exact ⟨9000 + d25, by rw [show 9000 + d25 - d25 = 9000 by omega], .inl ⟨by omega, by omega⟩⟩
        · exact ⟨-9000 + d25, by rw [show -9000 + d25 - d25 = -9000 by omega], .inr ⟨by omega, by omega⟩⟩
      refine ⟨_, _, rfl, rfl, ?_⟩
      refine name_by ?_
      dsimp only
      rw [show g - d25 + d25 = g by omega]
      clear h24 mv25 hB25 hgv d250 d251
      -- the spoilt row
      refine ⟨_, rfl, _, rfl, _, rfl, l, _, rfl, SqL.of (h25.at 1 rfl), fun pa na => ?_⟩
      rw [cutRt P sp]
      have h26 := h25.newU (o := .lst (refsW (P.take sp))) na
      generalize upd H25 pa (.lst (refsW (P.take sp))) = H26 at h26 ⊢
      refine ⟨_, rfl, _, rfl, (by show 2 ≤ sizeLine; decide), fun t1 nt1 => ?_⟩
      have h27 := h26.newT (xs := [.int g, .int 0]) nt1
      generalize upd H26 t1 (.tup [.int g, .int 0]) = H27 at h27 ⊢
      refine ⟨_, rfl, (by show 2 ≤ sizeLine; decide), fun t2 nt2 => ?_⟩
      have h28 := h27.newT (xs := [.int 0, .int g]) nt2
      generalize upd H27 t2 (.tup [.int 0, .int g]) = H28 at h28 ⊢
      refine ⟨(by show 2 ≤ sizeLine; decide), fun pl npl => ?_⟩
      have h29 := h28.newU (o := .lst [.ref t1, .ref t2]) npl
      generalize upd H28 pl (.lst [.ref t1, .ref t2]) = H29 at h29 ⊢
      refine ⟨b, pl, _, rfl, h29.bag, h29.hs.ne 1 0 rfl rfl (.head _) (.head _), h29.at 1 rfl, (by show 0 < 2; decide), (by show 2 < 1000; decide), fun H30 tv mv30 hB30 htv => ?_⟩
      have h30 := h29.mv mv30 hB30
      obtain ⟨t, u, rfl, ht, hu⟩ : ∃ (t : Addr) (u : List Int), tv = .ref t ∧ SqT K H30 t (u.map L2.V.int) ∧ (u = [g, 0] ∨ u = [0, g]) := by
        simp only [List.mem_cons, List.not_mem_nil, or_false] at htv
        rcases htv with rfl | rfl
        · exact ⟨t1, [g, 0], rfl, h30.tf _ (.tail _ (.head _)), .inl rfl⟩
        · exact ⟨t2, [0, g], rfl, h30.tf _ (.head _), .inr rfl⟩
      have h31 : Hw K ((t, u.map L2.V.int) :: (knW P ++ (LW f6 v0 v1 v2 v3 w0 w1 w2 w3 ++ LW f3 u0 u1 u2 u3 w0 w1 w2 w3))) [(tP, qLam)] [tB b, tL pa (refsW (P.take sp)), tL l (refsW P), tWr CW x6 f6 p6 q6 ns ms, tWr CW x f3 p5 q5 ns ms] H30 := ((h30.know ht).selT (fun q hq => by
        rcases List.mem_cons.mp hq with h | h
        · rw [h]
          exact .head _
        · exact .tail _ (.tail _ (.tail _ h)))).sel [0, 2, 3, 4, 5] (by decide)
      clear h25 h26 h27 h28 h29 h30 mv30 hB30 htv ht na nt1 nt2 npl
      refine ⟨(by show 1 ≤ sizeLine; decide), fun p1 np1 => ?_⟩
      have h32 := h31.newU (o := .lst [.ref t]) np1
      generalize upd H30 p1 (.lst [.ref t]) = H32 at h32 ⊢
      have lsp : sp < 20 := by omega
      refine ⟨pa, p1, _, _, rfl, rfl, h32.at 2 rfl, h32.at 1 rfl, by rw [List.length_map, List.length_take]; exact Nat.le_trans (show min sp P.length + 1 ≤ 21 by omega) (by decide), fun p2 np2 => ?_⟩
      rw [show refsW (P.take sp) ++ [L2.V.ref t] = refsW (P.take sp ++ [(t, u)]) by unfold refsW; rw [List.map_append]; rfl]
      have h33 := (h32.newU (o := .lst (refsW (P.take sp ++ [(t, u)]))) np2).sel [0, 1, 4, 5, 6] (by decide)
      generalize upd H32 p2 (.lst (refsW (P.take sp ++ [(t, u)]))) = H33 at h33 ⊢
      refine ⟨_, rfl, _, rfl, _, _, rfl, rfl, _, rfl, l, _, rfl, SqL.of (h33.at 2 rfl), fun p3 np3 => ?_⟩
      rw [show cutV (refsW P) (some ((sp : Int) + 1)) none = refsW (P.drop (sp + 1)) from cutRf P (sp + 1)]
      have h34 := h33.newU (o := .lst (refsW (P.drop (sp + 1)))) np3
      generalize upd H33 p3 (.lst (refsW (P.drop (sp + 1)))) = H34 at h34 ⊢
      refine ⟨p2, p3, _, _, rfl, rfl, h34.at 2 rfl, h34.at 1 rfl, by rw [List.length_map, List.length_map, List.length_append, List.length_take, List.length_drop]; exact Nat.le_trans (show min sp P.length + 1 + (P.length - (sp + 1)) ≤ 60 by omega) (by decide), fun p4 np4 => ?_⟩
      obtain ⟨S, eS⟩ : ∃ S : List WP, S = P.take sp ++ [(t, u)] ++ P.drop (sp + 1) := ⟨_, rfl⟩
      rw [show refsW (P.take sp ++ [(t, u)]) ++ refsW (P.drop (sp + 1)) = refsW S by rw [eS]; exact List.map_append.symm]
      have h35 : Hw K ((t, u.map L2.V.int) :: (knW P ++ (LW f6 v0 v1 v2 v3 w0 w1 w2 w3 ++ LW f3 u0 u1 u2 u3 w0 w1 w2 w3))) [(tP, qLam)] [tB b, tL p4 (refsW S), tWr CW x6 f6 p6 q6 ns ms, tWr CW x f3 p5 q5 ns ms] (upd H34 p4 (.lst (refsW S))) := (h34.newU (o := .lst (refsW S)) np4).sel [0, 1, 5, 6] (by decide)
      generalize upd H34 p4 (.lst (refsW S)) = H35 at h35 ⊢
      clear h31 h32 h33 h34 np1 np2 np3 np4
      refine name_by ?_
      dsimp only
      have lS : S.length = 20 := by
        rw [eS, List.length_append, List.length_append, List.length_take, List.length_drop]
        show min sp P.length + 1 + (P.length - (sp + 1)) = 20
        omega
      have nzS : nzOk (wsOf S) := by
        intro v hv
        rw [eS, wsOf_app, wsOf_app] at hv
        rcases List.mem_append.mp hv with hv | hv
        · rcases List.mem_append.mp hv with hv | hv
          · exact hnz v (by
              obtain ⟨p, hp, rfl⟩ := List.mem_map.mp hv
              exact List.mem_map.mpr ⟨p, List.mem_of_mem_take hp, rfl⟩)
          · rw [List.mem_singleton.mp hv]
            rcases hu with rfl | rfl
            · exact ⟨_, _, rfl⟩
            · exact ⟨_, _, rfl⟩
        · exact hnz v (by
            obtain ⟨p, hp, rfl⟩ := List.mem_map.mp hv
            exact List.mem_map.mpr ⟨p, List.mem_of_mem_drop hp, rfl⟩)
      have atS : S[sp]? = some (t, u) := by
        have lt : (P.take sp).length = sp := by rw [List.length_take]; omega
        rw [eS, List.append_assoc, List.getElem?_append_right (by omega), lt, Nat.sub_self]
        rfl
      have badS := tr_bad (N := wsOf S) hW.sm hsp (by
        rw [(nz_of atS).1, (nz_of atS).2]
        rcases hu with rfl | rfl
        · exact .inl hg
        · exact .inr hg)
      have noS' : ∀ V m, ¬ TrOk (rawW w0 w1 w2 w3) (wsOf S) V m := fun V m ok => by
        rcases badS with e | e | e | e
        · rw [ok.forth] at e; cases e
        · rw [ok.back] at e; cases e
        · rw [ok.near] at e; cases e
        · rw [ok.far] at e; cases e
      have subS : ∀ {H : Hp} {Ts : List Th}, Hw K ((t, u.map L2.V.int) :: (knW P ++ (LW f6 v0 v1 v2 v3 w0 w1 w2 w3 ++ LW f3 u0 u1 u2 u3 w0 w1 w2 w3))) [(tP, qLam)] Ts H → TF K (knW S) H := fun h p hp => by
        rw [eS] at hp
        obtain ⟨pr, hpr, rfl⟩ := List.mem_map.mp hp
        rcases List.mem_append.mp hpr with z | z
        · rcases List.mem_append.mp z with z | z
          · exact h.tf _ (.tail _ (List.mem_append_left _ (List.mem_map.mpr ⟨pr, List.mem_of_mem_take z, rfl⟩)))
          · rw [List.mem_singleton.mp z]
            exact h.tf _ (.head _)
        · exact h.tf _ (.tail _ (List.mem_append_left _ (List.mem_map.mpr ⟨pr, List.mem_of_mem_drop z, rfl⟩)))
      have sub3 : ∀ {H : Hp} {Ts : List Th}, Hw K ((t, u.map L2.V.int) :: (knW P ++ (LW f6 v0 v1 v2 v3 w0 w1 w2 w3 ++ LW f3 u0 u1 u2 u3 w0 w1 w2 w3))) [(tP, qLam)] Ts H → FourAt K f3 (rawW w0 w1 w2 w3) H := fun h => LW_four h (fun q hq => .tail _ (List.mem_append_right _ (List.mem_append_right _ hq)))
      have sub6 : ∀ {H : Hp} {Ts : List Th}, Hw K ((t, u.map L2.V.int) :: (knW P ++ (LW f6 v0 v1 v2 v3 w0 w1 w2 w3 ++ LW f3 u0 u1 u2 u3 w0 w1 w2 w3))) [(tP, qLam)] Ts H → FourAt K f6 (rawW w0 w1 w2 w3) H := fun h => LW_four h (fun q hq => .tail _ (List.mem_append_right _ (List.mem_append_left _ hq)))
      clear atS badS hu eS
      -- refused: BadTaps
      refine ⟨h35.hs.tab, fun H36 ex36 tb36 => ?_⟩
      have h36 := h35.extX ex36 tb36
      refine ⟨_, rfl, _, rfl, x, f3, p5, q5, p4, true, ns, ms, rawW w0 w1 w2 w3, S, rfl, h36.get 3 rfl, sub3 h36, hW.ok, SqL.of (h36.at 1 rfl), subS h36, nzS, by omega, (fun _ V m ok => absurd ok (noS' V m)), (fun _ _ H37 dd s37 nd37 ed37 => ?_), (fun no => absurd lS no)⟩
      have h37 := h36.same s37
      refine ⟨dd, _, rfl, ed37, .inl ⟨rfl, rfl, fun p38 n38 => ?_⟩⟩
      have h38 := h37.same (same_upd (o := .tup [.str "refused", .str "BadTaps"]) n38)
      refine ⟨(by show 2 ≤ sizeLine; decide), fun p39 n39 => ?_⟩
      have h39 := h38.same (same_upd (o := .tup [.str "refused", .str "BadTaps"]) n39)
      refine ⟨_, _, dp_ss (same_upd n39 _ _ upd_same), dp_ss upd_same, shaped_ss lay_refused lay_BadTaps, shaped_ss lay_refused lay_BadTaps, _, rfl, ifF (ss_same _ _ lay_refused lay_BadTaps) ?_⟩
      generalize upd (upd H37 p38 (.tup [.str "refused", .str "BadTaps"])) p39 (.tup [.str "refused", .str "BadTaps"]) = H39 at h39 ⊢
      clear h35 h36 h37 h38 s37 ed37 nd37
      obtain ⟨⟨dxk, hik⟩, _⟩ : Wr CW x6 f6 p6 q6 ns ms H39 := h39.get 2 rfl
      obtain ⟨⟨dxw, hiw⟩, _⟩ : Wr CW x f3 p5 q5 ns ms H39 := h39.get 3 rfl
      refine ⟨_, rfl, _, rfl, x, dxw, _, x6, dxk, _, rfl, rfl, hiw, hik, .inl ⟨x, f3, p5, q5, x6, f6, p6, q6, ns, ms, ns, ms, rawW w0 w1 w2 w3, rawW w0 w1 w2 w3, rfl, h39.get 3 rfl, h39.get 2 rfl, sub3 h39, sub6 h39, _, rfl, ?_⟩⟩
      rw [hid]
      refine ⟨_, rfl, iteF ?_⟩
      clear hik hiw
      -- other counts
      refine ⟨_, rfl, _, rfl, p4, p4, _, _, rfl, rfl, h39.at 1 rfl, h39.at 1 rfl, by rw [List.length_map, lS]; decide, fun p40 n40 => ?_⟩
      rw [show refsW S ++ refsW S = refsW (S ++ S) from List.map_append.symm]
      have h40 := h39.newU (o := .lst (refsW (S ++ S))) n40
      generalize upd H39 p40 (.lst (refsW (S ++ S))) = H40 at h40 ⊢
      refine ⟨_, rfl, (by show 4 ≤ sizeLine; decide), fun pc npc => ?_⟩
      have h41 := h40.newU (o := .lst [.int 0, .int 19, .int 21, .int 40]) npc
      generalize upd H40 pc (.lst [.int 0, .int 19, .int 21, .int 40]) = H41 at h41 ⊢
      refine ⟨b, pc, _, rfl, h41.bag, h41.hs.ne 1 0 rfl rfl (.head _) (.head _), h41.at 1 rfl, (by show 0 < 4; decide), (by show 4 < 1000; decide), fun H42 cv mv42 hB42 hcv => ?_⟩
      have h42 := h41.mv mv42 hB42
      obtain ⟨cn, rfl, hcn, hcn40⟩ : ∃ z : Nat, cv = .int (z : Int) ∧ z ≠ 20 ∧ z ≤ 40 := by
        simp only [List.mem_cons, List.not_mem_nil, or_false] at hcv
        rcases hcv with rfl | rfl | rfl | rfl
        · exact ⟨0, rfl, by decide, by decide⟩
        · exact ⟨19, rfl, by decide, by decide⟩
        · exact ⟨21, rfl, by decide, by decide⟩
        · exact ⟨40, rfl, by decide, by decide⟩
      refine ⟨_, rfl, p40, _, rfl, SqL.of (h42.at 2 rfl), fun po npo => ?_⟩
      rw [cutRt (S ++ S) cn]
      have h43 : Hw K ((t, u.map L2.V.int) :: (knW P ++ (LW f6 v0 v1 v2 v3 w0 w1 w2 w3 ++ LW f3 u0 u1 u2 u3 w0 w1 w2 w3))) [(tP, qLam)] [tB b, tL po (refsW ((S ++ S).take cn)), tWr CW x6 f6 p6 q6 ns ms, tWr CW x f3 p5 q5 ns ms] (upd H42 po (.lst (refsW ((S ++ S).take cn)))) := (h42.newU (o := .lst (refsW ((S ++ S).take cn))) npo).sel [0, 1, 5, 6] (by decide)
      generalize upd H42 po (.lst (refsW ((S ++ S).take cn))) = H43 at h43 ⊢
      clear h39 h40 h41 h42 mv42 hB42 hcv n40 npc npo
      refine name_by ?_
      dsimp only
      have lO : ((S ++ S).take cn).length = cn := by rw [List.length_take, List.length_append]; omega
      have memO : ∀ p ∈ (S ++ S).take cn, p ∈ S := fun p hp => by
        have := List.mem_of_mem_take hp
        rcases List.mem_append.mp this with z | z <;> exact z
      have nzO : nzOk (wsOf ((S ++ S).take cn)) := fun v hv => by
        obtain ⟨p, hp, rfl⟩ := List.mem_map.mp hv
        exact nzS _ (List.mem_map.mpr ⟨p, memO p hp, rfl⟩)
      refine ⟨h43.hs.tab, fun H44 ex44 tb44 => ?_⟩
      have h44 := h43.extX ex44 tb44
      refine ⟨_, rfl, _, rfl, x, f3, p5, q5, po, true, ns, ms, rawW w0 w1 w2 w3, (S ++ S).take cn, rfl, h44.get 3 rfl, sub3 h44, hW.ok, SqL.of (h44.at 1 rfl), (fun p hp => by
        obtain ⟨pr, hpr, rfl⟩ := List.mem_map.mp hp
        exact subS h44 _ (List.mem_map.mpr ⟨pr, memO pr hpr, rfl⟩)), nzO, by omega, (fun h20 => absurd (lO.symm.trans h20) hcn), (fun h20 => absurd (lO.symm.trans h20) hcn), (fun _ H45 dd s45 nd45 ed45 => ?_)⟩
      have h45 := h44.same s45
      refine ⟨dd, _, rfl, ed45, .inr ⟨rfl, rfl, fun p46 n46 => ?_⟩⟩
      have h46 := h45.same (same_upd (o := .tup [.str "refused", .str "BadNoise"]) n46)
      refine ⟨(by show 2 ≤ sizeLine; decide), fun p47 n47 => ?_⟩
      have h47 := h46.same (same_upd (o := .tup [.str "refused", .str "BadNoise"]) n47)
      refine ⟨_, _, dp_ss (same_upd n47 _ _ upd_same), dp_ss upd_same, shaped_ss lay_refused lay_BadNoise, shaped_ss lay_refused lay_BadNoise, _, rfl, ifF (ss_same _ _ lay_refused lay_BadNoise) ?_⟩
      generalize upd (upd H45 p46 (.tup [.str "refused", .str "BadNoise"])) p47 (.tup [.str "refused", .str "BadNoise"]) = H47 at h47 ⊢
      clear h43 h44 h45 h46 s45 ed45 nd45
      obtain ⟨⟨dxk, hik⟩, _⟩ : Wr CW x6 f6 p6 q6 ns ms H47 := h47.get 2 rfl
      obtain ⟨⟨dxw, hiw⟩, _⟩ : Wr CW x f3 p5 q5 ns ms H47 := h47.get 3 rfl
      refine ⟨_, rfl, _, rfl, x, dxw, _, x6, dxk, _, rfl, rfl, hiw, hik, .inl ⟨x, f3, p5, q5, x6, f6, p6, q6, ns, ms, ns, ms, rawW w0 w1 w2 w3, rawW w0 w1 w2 w3, rfl, h47.get 3 rfl, h47.get 2 rfl, sub3 h47, sub6 h47, _, rfl, ?_⟩⟩
      rw [hid]
      refine ⟨_, rfl, iteF ?_⟩
      exact ⟨⟨_, rfl, rfl⟩, (h47.sel [0] (by decide)).selT (fun q hq => absurd hq List.not_mem_nil)⟩
    · rintro σ H1 ⟨⟨ys, hys, rfl⟩, h1⟩
      have up : ∀ {y dy : Addr} {o o' : HO} {H : Hp}, H y = none → H dy = none → Same H (upd (upd H dy o) y o') := fun ny ndy => fun a u e => by rw [upd_ne (ne_of_none e ny), upd_ne (ne_of_none e ndy)]; exact e
      have ok0 : okSh [] := ⟨by decide, fun x hx => absurd hx List.not_mem_nil⟩
      refine fun x dx nx ndx nex => ⟨x, dx, e0, e1', e2', e3', false, false, false, false, [], [], [], [], rfl, upd_same, hE0 _, hE1 _, hE2 _, hE3 _, by decide, by decide, by decide, by decide, (fun _ H4 f4 p4 q4 m4 np4 nq4 hw4 hf4 => ⟨rfl, ?_⟩), (fun no => absurd ⟨ok0, ok0, ok0, ok0⟩ no)⟩
      have hf4 : FourAt K f4 ⟨[], [], [], []⟩ H4 := hf4
      refine ⟨(by show 2 ≤ sizeLine; decide), fun t nt => ⟨(by show 1 ≤ sizeLine; decide), fun p1 n1 => ⟨p1, _, _, rfl, rfl, upd_same, by decide, by decide, (by show 1 * 20 ≤ sizeLine; decide), fun p2 n2 => ?_⟩⟩⟩
      have s5 := (same_upd (o := .tup [.int 0, .int 0]) nt).trans ((same_upd (o := .lst [.ref t]) n1).trans (same_upd (o := .lst (List.replicate (Int.toNat 20) [L2.V.ref t]).flatten) n2))
      have et : upd (upd (upd H4 t (.tup [.int 0, .int 0])) p1 (.lst [.ref t])) p2 (.lst (List.replicate (Int.toNat 20) [L2.V.ref t]).flatten) t = some (.tup [.int 0, .int 0]) := same_upd n2 _ _ (same_upd n1 _ _ upd_same)
      have ep : upd (upd (upd H4 t (.tup [.int 0, .int 0])) p1 (.lst [.ref t])) p2 (.lst (List.replicate (Int.toNat 20) [L2.V.ref t]).flatten) p2 = some (.lst (refsW (List.replicate 20 (t, [0, 0])))) := upd_same
      generalize upd (upd (upd H4 t (.tup [.int 0, .int 0])) p1 (.lst [.ref t])) p2 (.lst (List.replicate (Int.toNat 20) [L2.V.ref t]).flatten) = H5 at s5 et ep ⊢
      have hw5 : Wr CW x f4 p4 q4 z4 z4 H5 := (tWr CW x f4 p4 q4 z4 z4).loc _ _ (fun a ha o e => s5 a o e) hw4
      have hT0 : TrimW ⟨[], [], [], []⟩ := by
        have z : ∀ x ∈ ([] : List Int), small x := fun x hx => absurd hx List.not_mem_nil
        exact ⟨⟨z, z, z, z, Nat.zero_le _, Nat.zero_le _, Nat.zero_le _, Nat.zero_le _⟩, rfl, rfl, rfl, rfl⟩
      have eN : wsOf (List.replicate 20 (t, [0, 0])) = List.replicate 20 [0, 0] := rfl
      have hlim : ∀ p ∈ List.replicate 20 (t, ([0, 0] : List Int)), lim2 0 p.2 := fun p hp => by
        rw [(List.mem_replicate.mp hp).2]
        exact ⟨0, 0, rfl, by decide, by decide, by decide, by decide⟩
      have h20 : (List.replicate 20 (t, ([0, 0] : List Int))).length = 20 := rfl
      obtain ⟨g0, g1, g2, g3⟩ := tr_good hT0 (quiet_of (P := List.replicate 20 (t, [0, 0])) (by decide) hlim h20)
      refine ⟨x, f4, p4, q4, p2, true, z4, z4, ⟨[], [], [], []⟩, List.replicate 20 (t, [0, 0]), rfl, hw5, hf4.same s5, hT0.ok, SqL.of ep, (fun p hp => by
        obtain ⟨pr, hpr, rfl⟩ := List.mem_map.mp hp
        rw [(List.mem_replicate.mp hpr).2]
        exact SqT.of et), nzOk_of hlim, by rw [h20]; decide, (fun _ V m' ok16 H16 t' t0 t1 t2 t3 s16 nt' et' ht0 ht1 ht2 ht3 => ?_), (fun _ bad => by rcases bad with e | e | e | e <;> simp_all), (fun no => absurd h20 no)⟩
      have eV0 : V.forth = [] := Option.some.inj (ok16.forth.symm.trans g0)
      have eV1 : V.back = [] := Option.some.inj (ok16.back.symm.trans g1)
      have eV2 : V.near = [] := Option.some.inj (ok16.near.symm.trans g2)
      have eV3 : V.far = [] := Option.some.inj (ok16.far.symm.trans g3)
      have em : m' = 0 := by
        obtain ⟨j, hj, e⟩ := mem_sil.mp ok16.mem
        have hj20 : j < 20 := by unfold inJ at hj; omega
        have hp : (List.replicate 20 (t, ([0, 0] : List Int)))[j]? = some (t, [0, 0]) := by rw [List.getElem?_replicate, if_pos hj20]
        rw [(nz_of hp).1, (nz_of hp).2] at e
        rcases e with e | e <;> exact e
      subst em
      rw [eV0] at ht0
      rw [eV1] at ht1
      rw [eV2] at ht2
      rw [eV3] at ht3
      refine ⟨Nat.zero_le _, fun r0 nr0 => ⟨Nat.zero_le _, fun r1 nr1 => ⟨Nat.zero_le _, fun r2 nr2 => ⟨Nat.zero_le _, fun r3 nr3 => ⟨(by show 5 ≤ sizeLine; decide), fun r4 nr4 => ?_⟩⟩⟩⟩⟩
      have a1 := same_upd (o := .tup []) nr0
      have a2 := same_upd (o := .tup []) nr1
      have a3 := same_upd (o := .tup []) nr2
      have a4 := same_upd (o := .tup []) nr3
      have a5 := same_upd (o := .tup [.ref r0, .ref r1, .ref r2, .ref r3, .int 0]) nr4
      have sz := a1.trans (a2.trans (a3.trans (a4.trans a5)))
      refine ⟨d5 ⟨[], [], [], []⟩ 0, d5 ⟨[], [], [], []⟩ 0, dp_five (V := ⟨[], [], [], []⟩) (SqT.of (sz _ _ et')) (same_t sz ht0) (same_t sz ht1) (same_t sz ht2) (same_t sz ht3),
        dp_five (V := ⟨[], [], [], []⟩) (SqT.of upd_same) (SqT.of ((a2.trans (a3.trans (a4.trans a5))) _ _ upd_same)) (SqT.of ((a3.trans (a4.trans a5)) _ _ upd_same)) (SqT.of ((a4.trans a5) _ _ upd_same)) (SqT.of (a5 _ _ upd_same)), shaped_five _ _, shaped_five _ _, ?_⟩
      rw [SeqAt.eqv_refl _ (SeqAt.canLay_of_shaped (shaped_five _ _))]
      exact q _
end
/-! ### the end -/
theorem all_mk {l : PySem.W.OpenLaw} {w : World} {K : PySem.W.Frag} {h : Heap} {mg : Str → Option Value} {fa f0 f1 f2 f3 f4 f5 f6 f7 f8 f9 f10 f11 f12 f13 f14 f15 f16 f17 f18 f19 f20 f21 f22 f23 f24 f25 f26 f27 f28 f29 : Addr} (X : K.In h) (G : h.Ns mainGlobals mg) (hfa : mg "law" = some (.ref fa)) (own : LamX.OwnTab K fa h)
    {cWire : Addr}
    {oc0 : Value} {od0 an0 : Option Addr} {sl0 : Array (Option Value)} {kV0 dc0 pm0 cd0 ct0 : Value}
    {oc1 : Value} {od1 an1 : Option Addr} {sl1 : Array (Option Value)} {kV1 dc1 pm1 cd1 ct1 : Value}
    {oc2 : Value} {od2 an2 : Option Addr} {sl2 : Array (Option Value)} {kV2 dc2 pm2 cd2 ct2 : Value}
    {oc3 : Value} {od3 an3 : Option Addr} {sl3 : Array (Option Value)} {kV3 dc3 pm3 cd3 ct3 : Value}
    {oc4 : Value} {od4 an4 : Option Addr} {sl4 : Array (Option Value)} {kV4 dc4 pm4 cd4 ct4 : Value}
    {oc5 : Value} {od5 an5 : Option Addr} {sl5 : Array (Option Value)} {kV5 dc5 pm5 cd5 ct5 : Value}
    {oc6 : Value} {od6 an6 : Option Addr} {sl6 : Array (Option Value)} {kV6 dc6 pm6 cd6 ct6 : Value}
    {oc7 : Value} {od7 an7 : Option Addr} {sl7 : Array (Option Value)} {kV7 dc7 pm7 cd7 ct7 : Value}
    {oc8 : Value} {od8 an8 : Option Addr} {sl8 : Array (Option Value)} {kV8 dc8 pm8 cd8 ct8 : Value}
    {oc9 : Value} {od9 an9 : Option Addr} {sl9 : Array (Option Value)} {kV9 dc9 pm9 cd9 ct9 : Value}
    {oc10 : Value} {od10 an10 : Option Addr} {sl10 : Array (Option Value)} { dc10 pm10 cd10 ct10 : Value}
    {D10 : Addr}
    {e10_10 : Addr} {o_e10_10 : Option Addr} {m_e10_10 : Nat} {sl_e10_10 : Array (Option Value)}
    {e10_11 : Addr} {o_e10_11 : Option Addr} {m_e10_11 : Nat} {sl_e10_11 : Array (Option Value)}
    {e10_12 : Addr} {o_e10_12 : Option Addr} {m_e10_12 : Nat} {sl_e10_12 : Array (Option Value)}
    {e10_13 : Addr} {o_e10_13 : Option Addr} {m_e10_13 : Nat} {sl_e10_13 : Array (Option Value)}
    {oc11 : Value} {od11 an11 : Option Addr} {sl11 : Array (Option Value)} {kV11 dc11 pm11 cd11 ct11 : Value}
    {oc12 : Value} {od12 an12 : Option Addr} {sl12 : Array (Option Value)} { dc12 pm12 cd12 ct12 : Value}
    {D12 : Addr}
    {e12_10 : Addr} {o_e12_10 : Option Addr} {m_e12_10 : Nat} {sl_e12_10 : Array (Option Value)} {t_e12_10_0 t_e12_10_1 : Tok}
    {oc13 : Value} {od13 an13 : Option Addr} {sl13 : Array (Option Value)} {kV13 dc13 pm13 cd13 ct13 : Value}
    {oc14 : Value} {od14 an14 : Option Addr} {sl14 : Array (Option Value)} {kV14 dc14 pm14 cd14 ct14 : Value}
    {oc15 : Value} {od15 an15 : Option Addr} {sl15 : Array (Option Value)} {kV15 dc15 pm15 cd15 ct15 : Value}
    {oc16 : Value} {od16 an16 : Option Addr} {sl16 : Array (Option Value)} {kV16 dc16 pm16 cd16 ct16 : Value}
    {oc17 : Value} {od17 an17 : Option Addr} {sl17 : Array (Option Value)} {kV17 dc17 pm17 cd17 ct17 : Value}
    {oc18 : Value} {od18 an18 : Option Addr} {sl18 : Array (Option Value)} {kV18 dc18 pm18 cd18 ct18 : Value}
    {oc19 : Value} {od19 an19 : Option Addr} {sl19 : Array (Option Value)} {kV19 dc19 pm19 cd19 ct19 : Value}
    {oc20 : Value} {od20 an20 : Option Addr} {sl20 : Array (Option Value)} {kV20 dc20 pm20 cd20 ct20 : Value}
    {oc21 : Value} {od21 an21 : Option Addr} {sl21 : Array (Option Value)} {kV21 dc21 pm21 cd21 ct21 : Value}
    {oc22 : Value} {od22 an22 : Option Addr} {sl22 : Array (Option Value)} {kV22 dc22 pm22 cd22 ct22 : Value}
    {oc23 : Value} {od23 an23 : Option Addr} {sl23 : Array (Option Value)} {kV23 dc23 pm23 cd23 ct23 : Value}
    {oc24 : Value} {od24 an24 : Option Addr} {sl24 : Array (Option Value)} {kV24 dc24 pm24 cd24 ct24 : Value}
    {oc25 : Value} {od25 an25 : Option Addr} {sl25 : Array (Option Value)} {kV25 dc25 pm25 cd25 ct25 : Value}
    {oc26 : Value} {od26 an26 : Option Addr} {sl26 : Array (Option Value)} {kV26 dc26 pm26 cd26 ct26 : Value}
    {oc27 : Value} {od27 an27 : Option Addr} {sl27 : Array (Option Value)} {kV27 dc27 pm27 cd27 ct27 : Value}
    {oc28 : Value} {od28 an28 : Option Addr} {sl28 : Array (Option Value)} {kV28 dc28 pm28 cd28 ct28 : Value}
    {oc29 : Value} {od29 an29 : Option Addr} {sl29 : Array (Option Value)} {kV29 dc29 pm29  ct29 : Value}
    {cL_ tP : Addr} {eT : Value} {ddT : Option Addr} {vsT : Array Value} {slT : Array (Option Value)}
    {cLE fLE dLE : Addr} {ocLE : Value} {odLE anLE : Option Addr} {slLE : Array (Option Value)} {kVLE dcLE pmLE cdLE ctLE : Value} {oD : Option Addr} {mD : Nat} {slD : Array (Option Value)} {tLe1 tLe2 : Tok}
    {xBadTaps : Addr}
    {xBadNoise : Addr}
    {xMissing : Addr}
    {fIBadTaps : Addr} {nmBadTaps qBadTaps : Str} {NBadTaps : Addr} {bsBadTaps bmBadTaps : List Value} {snBadTaps : List Str} {subBadTaps : List Value} {abBadTaps : Bool} {colBadTaps : Option Bool} {ddBadTaps : Option Addr} {kaBadTaps kbBadTaps kcBadTaps kdBadTaps keBadTaps : Option Value}
    {ocBadTaps : Value} {odBadTaps anBadTaps : Option Addr} {slBadTaps : Array (Option Value)} {kVBadTaps dcBadTaps pmBadTaps cdBadTaps ctBadTaps : Value}
    {fIBadNoise : Addr} {nmBadNoise qBadNoise : Str} {NBadNoise : Addr} {bsBadNoise bmBadNoise : List Value} {snBadNoise : List Str} {subBadNoise : List Value} {abBadNoise : Bool} {colBadNoise : Option Bool} {ddBadNoise : Option Addr} {kaBadNoise kbBadNoise kcBadNoise kdBadNoise keBadNoise : Option Value}
    {ocBadNoise : Value} {odBadNoise anBadNoise : Option Addr} {slBadNoise : Array (Option Value)} {kVBadNoise dcBadNoise pmBadNoise cdBadNoise ctBadNoise : Value}
    {t_MOST_SHARES : Tok}
    {t_GREATEST_SHARE : Tok}
    {t_STRONG : Tok}
    {t_PROBE_BEATS : Tok}
    {t_TRAINING_BEATS : Tok}
    (r1Wire : PySem.W.nsIn K mainGlobals "Wire" = some (some (.ref cWire)))
    (r2Wire : PySem.W.plainGet K cWire Str.empty = true)
    (r3Wire : PySem.W.hasDictIn K cWire = true)
    (r4Wire : PySem.W.plainOver K cWire = true)
    (r5Wire : PySem.W.findIn K (.ref cWire) "__setattr__" = some (some (.builtin "object.__setattr__")))
    (r6Wire : PySem.W.makesIn K cWire = true)
    (r7Wire : PySem.W.keepIn K (.ref cWire) = true)
    (r_Wire_four : PySem.W.findIn K (.ref cWire) "four" = some none)
    (r_Wire_one_tones : PySem.W.findIn K (.ref cWire) "one_tones" = some none)
    (r_Wire_other_tones : PySem.W.findIn K (.ref cWire) "other_tones" = some none)
    (mr_Wire : PySem.W.mroIn K cWire (.type "object") = some true)
    (ne_Wire : PySem.W.findIn K (.ref cWire) "__ne__" = some (some (.builtin "object.__ne__")))
    (is1_Wire : PySem.W.findIn K (.ref cWire) "__class__" = some (some (.builtin "object.__class__")))
    (is2_Wire : PySem.W.specialIn K (.builtin "object.__class__") "__get__" = some (some (.builtin "getset_descriptor.__get__")))
    (is3_Wire : PySem.W.takesIn K (.builtin "object.__class__") = some true)
    (is5_Wire : PySem.W.kitOne K (.ref cWire) (.ref cWire) = some true)
    (a0 : PySem.W.nsIn K mainGlobals "without_last_noughts" = some (some (.ref f0)))
    (l0 : K.lookup f0 = some ⟨oc0, od0, .func (PySem.W.fnOf "without_last_noughts" "without_last_noughts" (defArgs s_without_last_noughts) (defBody s_without_last_noughts) (defScope s_without_last_noughts) .none kV0 dc0 pm0 an0 cd0 ct0), sl0⟩)
    (c0 : PySem.W.codeIn K cd0 "without_last_noughts" = true)
    (k0 : PySem.W.keepIn K (.ref f0) = true)
    (a1 : PySem.W.nsIn K mainGlobals "right_shares" = some (some (.ref f1)))
    (l1 : K.lookup f1 = some ⟨oc1, od1, .func (PySem.W.fnOf "right_shares" "right_shares" (defArgs s_right_shares) (defBody s_right_shares) (defScope s_right_shares) .none kV1 dc1 pm1 an1 cd1 ct1), sl1⟩)
    (c1 : PySem.W.codeIn K cd1 "right_shares" = true)
    (k1 : PySem.W.keepIn K (.ref f1) = true)
    (a2 : PySem.W.nsIn K mainGlobals "left_behind" = some (some (.ref f2)))
    (l2 : K.lookup f2 = some ⟨oc2, od2, .func (PySem.W.fnOf "left_behind" "left_behind" (defArgs s_left_behind) (defBody s_left_behind) (defScope s_left_behind) .none kV2 dc2 pm2 an2 cd2 ct2), sl2⟩)
    (c2 : PySem.W.codeIn K cd2 "left_behind" = true)
    (k2 : PySem.W.keepIn K (.ref f2) = true)
    (a3 : PySem.W.nsIn K mainGlobals "no_tones" = some (some (.ref f3)))
    (l3 : K.lookup f3 = some ⟨oc3, od3, .func (PySem.W.fnOf "no_tones" "no_tones" (defArgs s_no_tones) (defBody s_no_tones) (defScope s_no_tones) .none kV3 dc3 pm3 an3 cd3 ct3), sl3⟩)
    (c3 : PySem.W.codeIn K cd3 "no_tones" = true)
    (k3 : PySem.W.keepIn K (.ref f3) = true)
    (a4 : PySem.W.nsIn K mainGlobals "with_latest" = some (some (.ref f4)))
    (l4 : K.lookup f4 = some ⟨oc4, od4, .func (PySem.W.fnOf "with_latest" "with_latest" (defArgs s_with_latest) (defBody s_with_latest) (defScope s_with_latest) .none kV4 dc4 pm4 an4 cd4 ct4), sl4⟩)
    (c4 : PySem.W.codeIn K cd4 "with_latest" = true)
    (k4 : PySem.W.keepIn K (.ref f4) = true)
    (a5 : PySem.W.nsIn K mainGlobals "probe" = some (some (.ref f5)))
    (l5 : K.lookup f5 = some ⟨oc5, od5, .func (PySem.W.fnOf "probe" "probe" (defArgs s_probe) (defBody s_probe) (defScope s_probe) .none kV5 dc5 pm5 an5 cd5 ct5), sl5⟩)
    (c5 : PySem.W.codeIn K cd5 "probe" = true)
    (k5 : PySem.W.keepIn K (.ref f5) = true)
    (a6 : PySem.W.nsIn K mainGlobals "shares_of" = some (some (.ref f6)))
    (l6 : K.lookup f6 = some ⟨oc6, od6, .func (PySem.W.fnOf "shares_of" "shares_of" (defArgs s_shares_of) (defBody s_shares_of) (defScope s_shares_of) .none kV6 dc6 pm6 an6 cd6 ct6), sl6⟩)
    (c6 : PySem.W.codeIn K cd6 "shares_of" = true)
    (k6 : PySem.W.keepIn K (.ref f6) = true)
    (a7 : PySem.W.nsIn K mainGlobals "counts_of_probe" = some (some (.ref f7)))
    (l7 : K.lookup f7 = some ⟨oc7, od7, .func (PySem.W.fnOf "counts_of_probe" "counts_of_probe" (defArgs s_counts_of_probe) (defBody s_counts_of_probe) (defScope s_counts_of_probe) .none kV7 dc7 pm7 an7 cd7 ct7), sl7⟩)
    (c7 : PySem.W.codeIn K cd7 "counts_of_probe" = true)
    (k7 : PySem.W.keepIn K (.ref f7) = true)
    (a8 : PySem.W.nsIn K mainGlobals "taps_of" = some (some (.ref f8)))
    (l8 : K.lookup f8 = some ⟨oc8, od8, .func (PySem.W.fnOf "taps_of" "taps_of" (defArgs s_taps_of) (defBody s_taps_of) (defScope s_taps_of) .none kV8 dc8 pm8 an8 cd8 ct8), sl8⟩)
    (c8 : PySem.W.codeIn K cd8 "taps_of" = true)
    (k8 : PySem.W.keepIn K (.ref f8) = true)
    (a9 : PySem.W.nsIn K mainGlobals "echo_of" = some (some (.ref f9)))
    (l9 : K.lookup f9 = some ⟨oc9, od9, .func (PySem.W.fnOf "echo_of" "echo_of" (defArgs s_echo_of) (defBody s_echo_of) (defScope s_echo_of) .none kV9 dc9 pm9 an9 cd9 ct9), sl9⟩)
    (c9 : PySem.W.codeIn K cd9 "echo_of" = true)
    (k9 : PySem.W.keepIn K (.ref f9) = true)
    (a10 : PySem.W.findIn K (.ref cWire) "__init__" = some (some (.ref f10)))
    (i10 : PySem.W.isFn K (.ref f10) = true)
    (l10 : K.lookup f10 = some ⟨oc10, od10, .func (PySem.W.fnOf "__init__" "Wire.__init__" (defArgs m_Wire___init__) (defBody m_Wire___init__) (defScope m_Wire___init__) .none (.ref D10) dc10 pm10 an10 cd10 ct10), sl10⟩)
    (v10_0 : PySem.W.nsIn K D10 "forth" = some (some (.ref e10_10)))
    (v10_1 : PySem.W.nsIn K D10 "back" = some (some (.ref e10_11)))
    (v10_2 : PySem.W.nsIn K D10 "near" = some (some (.ref e10_12)))
    (v10_3 : PySem.W.nsIn K D10 "far" = some (some (.ref e10_13)))
    (w_e10_10 : K.lookup e10_10 = some ⟨.type "tuple", o_e10_10, .seq #[] m_e10_10, sl_e10_10⟩)
    (w_e10_11 : K.lookup e10_11 = some ⟨.type "tuple", o_e10_11, .seq #[] m_e10_11, sl_e10_11⟩)
    (w_e10_12 : K.lookup e10_12 = some ⟨.type "tuple", o_e10_12, .seq #[] m_e10_12, sl_e10_12⟩)
    (w_e10_13 : K.lookup e10_13 = some ⟨.type "tuple", o_e10_13, .seq #[] m_e10_13, sl_e10_13⟩)
    (c10 : PySem.W.codeIn K cd10 "Wire.__init__" = true)
    (k10 : PySem.W.keepIn K (.ref f10) = true)
    (a11 : PySem.W.findIn K (.ref cWire) "__eq__" = some (some (.ref f11)))
    (i11 : PySem.W.isFn K (.ref f11) = true)
    (l11 : K.lookup f11 = some ⟨oc11, od11, .func (PySem.W.fnOf "__eq__" "Wire.__eq__" (defArgs m_Wire___eq__) (defBody m_Wire___eq__) (defScope m_Wire___eq__) .none kV11 dc11 pm11 an11 cd11 ct11), sl11⟩)
    (c11 : PySem.W.codeIn K cd11 "Wire.__eq__" = true)
    (k11 : PySem.W.keepIn K (.ref f11) = true)
    (a12 : PySem.W.findIn K (.ref cWire) "beat" = some (some (.ref f12)))
    (i12 : PySem.W.isFn K (.ref f12) = true)
    (l12 : K.lookup f12 = some ⟨oc12, od12, .func (PySem.W.fnOf "beat" "Wire.beat" (defArgs m_Wire_beat) (defBody m_Wire_beat) (defScope m_Wire_beat) .none (.ref D12) dc12 pm12 an12 cd12 ct12), sl12⟩)
    (v12_0 : PySem.W.nsIn K D12 "noise" = some (some (.ref e12_10)))
    (w_e12_10 : K.lookup e12_10 = some ⟨.type "tuple", o_e12_10, .seq #[.int 0 t_e12_10_0, .int 0 t_e12_10_1] m_e12_10, sl_e12_10⟩)
    (c12 : PySem.W.codeIn K cd12 "Wire.beat" = true)
    (k12 : PySem.W.keepIn K (.ref f12) = true)
    (a13 : PySem.W.findIn K (.ref cWire) "hush" = some (some (.ref f13)))
    (i13 : PySem.W.isFn K (.ref f13) = true)
    (l13 : K.lookup f13 = some ⟨oc13, od13, .func (PySem.W.fnOf "hush" "Wire.hush" (defArgs m_Wire_hush) (defBody m_Wire_hush) (defScope m_Wire_hush) .none kV13 dc13 pm13 an13 cd13 ct13), sl13⟩)
    (c13 : PySem.W.codeIn K cd13 "Wire.hush" = true)
    (k13 : PySem.W.keepIn K (.ref f13) = true)
    (a14 : PySem.W.findIn K (.ref cWire) "twin" = some (some (.ref f14)))
    (i14 : PySem.W.isFn K (.ref f14) = true)
    (l14 : K.lookup f14 = some ⟨oc14, od14, .func (PySem.W.fnOf "twin" "Wire.twin" (defArgs m_Wire_twin) (defBody m_Wire_twin) (defScope m_Wire_twin) .none kV14 dc14 pm14 an14 cd14 ct14), sl14⟩)
    (c14 : PySem.W.codeIn K cd14 "Wire.twin" = true)
    (k14 : PySem.W.keepIn K (.ref f14) = true)
    (a15 : PySem.W.nsIn K mainGlobals "training_tones" = some (some (.ref f15)))
    (l15 : K.lookup f15 = some ⟨oc15, od15, .func (PySem.W.fnOf "training_tones" "training_tones" (defArgs s_training_tones) (defBody s_training_tones) (defScope s_training_tones) .none kV15 dc15 pm15 an15 cd15 ct15), sl15⟩)
    (c15 : PySem.W.codeIn K cd15 "training_tones" = true)
    (k15 : PySem.W.keepIn K (.ref f15) = true)
    (a16 : PySem.W.nsIn K mainGlobals "trained" = some (some (.ref f16)))
    (l16 : K.lookup f16 = some ⟨oc16, od16, .func (PySem.W.fnOf "trained" "trained" (defArgs s_trained) (defBody s_trained) (defScope s_trained) .none kV16 dc16 pm16 an16 cd16 ct16), sl16⟩)
    (c16 : PySem.W.codeIn K cd16 "trained" = true)
    (k16 : PySem.W.keepIn K (.ref f16) = true)
    (a17 : PySem.W.nsIn K mainGlobals "_law_bag" = some (some (.ref f17)))
    (l17 : K.lookup f17 = some ⟨oc17, od17, .func (PySem.W.fnOf "_law_bag" "_law_bag" (defArgs s__law_bag) (defBody s__law_bag) (defScope s__law_bag) .none kV17 dc17 pm17 an17 cd17 ct17), sl17⟩)
    (c17 : PySem.W.codeIn K cd17 "_law_bag" = true)
    (k17 : PySem.W.keepIn K (.ref f17) = true)
    (a18 : PySem.W.nsIn K mainGlobals "_law_pick" = some (some (.ref f18)))
    (l18 : K.lookup f18 = some ⟨oc18, od18, .func (PySem.W.fnOf "_law_pick" "_law_pick" (defArgs s__law_pick) (defBody s__law_pick) (defScope s__law_pick) .none kV18 dc18 pm18 an18 cd18 ct18), sl18⟩)
    (c18 : PySem.W.codeIn K cd18 "_law_pick" = true)
    (k18 : PySem.W.keepIn K (.ref f18) = true)
    (a19 : PySem.W.nsIn K mainGlobals "_law_of" = some (some (.ref f19)))
    (l19 : K.lookup f19 = some ⟨oc19, od19, .func (PySem.W.fnOf "_law_of" "_law_of" (defArgs s__law_of) (defBody s__law_of) (defScope s__law_of) .none kV19 dc19 pm19 an19 cd19 ct19), sl19⟩)
    (c19 : PySem.W.codeIn K cd19 "_law_of" = true)
    (k19 : PySem.W.keepIn K (.ref f19) = true)
    (a20 : PySem.W.nsIn K mainGlobals "_law_same" = some (some (.ref f20)))
    (l20 : K.lookup f20 = some ⟨oc20, od20, .func (PySem.W.fnOf "_law_same" "_law_same" (defArgs s__law_same) (defBody s__law_same) (defScope s__law_same) .none kV20 dc20 pm20 an20 cd20 ct20), sl20⟩)
    (c20 : PySem.W.codeIn K cd20 "_law_same" = true)
    (k20 : PySem.W.keepIn K (.ref f20) = true)
    (a21 : PySem.W.nsIn K mainGlobals "_law_tried" = some (some (.ref f21)))
    (l21 : K.lookup f21 = some ⟨oc21, od21, .func (PySem.W.fnOf "_law_tried" "_law_tried" (defArgs s__law_tried) (defBody s__law_tried) (defScope s__law_tried) .none kV21 dc21 pm21 an21 cd21 ct21), sl21⟩)
    (c21 : PySem.W.codeIn K cd21 "_law_tried" = true)
    (k21 : PySem.W.keepIn K (.ref f21) = true)
    (a22 : PySem.W.nsIn K mainGlobals "_law_far" = some (some (.ref f22)))
    (l22 : K.lookup f22 = some ⟨oc22, od22, .func (PySem.W.fnOf "_law_far" "_law_far" (defArgs s__law_far) (defBody s__law_far) (defScope s__law_far) .none kV22 dc22 pm22 an22 cd22 ct22), sl22⟩)
    (c22 : PySem.W.codeIn K cd22 "_law_far" = true)
    (k22 : PySem.W.keepIn K (.ref f22) = true)
    (a23 : PySem.W.nsIn K mainGlobals "_law_tone" = some (some (.ref f23)))
    (l23 : K.lookup f23 = some ⟨oc23, od23, .func (PySem.W.fnOf "_law_tone" "_law_tone" (defArgs s__law_tone) (defBody s__law_tone) (defScope s__law_tone) .none kV23 dc23 pm23 an23 cd23 ct23), sl23⟩)
    (c23 : PySem.W.codeIn K cd23 "_law_tone" = true)
    (k23 : PySem.W.keepIn K (.ref f23) = true)
    (a24 : PySem.W.nsIn K mainGlobals "_law_shares" = some (some (.ref f24)))
    (l24 : K.lookup f24 = some ⟨oc24, od24, .func (PySem.W.fnOf "_law_shares" "_law_shares" (defArgs s__law_shares) (defBody s__law_shares) (defScope s__law_shares) .none kV24 dc24 pm24 an24 cd24 ct24), sl24⟩)
    (c24 : PySem.W.codeIn K cd24 "_law_shares" = true)
    (k24 : PySem.W.keepIn K (.ref f24) = true)
    (a25 : PySem.W.nsIn K mainGlobals "_law_trimmed" = some (some (.ref f25)))
    (l25 : K.lookup f25 = some ⟨oc25, od25, .func (PySem.W.fnOf "_law_trimmed" "_law_trimmed" (defArgs s__law_trimmed) (defBody s__law_trimmed) (defScope s__law_trimmed) .none kV25 dc25 pm25 an25 cd25 ct25), sl25⟩)
    (c25 : PySem.W.codeIn K cd25 "_law_trimmed" = true)
    (k25 : PySem.W.keepIn K (.ref f25) = true)
    (a26 : PySem.W.nsIn K mainGlobals "_law_wire_new" = some (some (.ref f26)))
    (l26 : K.lookup f26 = some ⟨oc26, od26, .func (PySem.W.fnOf "_law_wire_new" "_law_wire_new" (defArgs s__law_wire_new) (defBody s__law_wire_new) (defScope s__law_wire_new) .none kV26 dc26 pm26 an26 cd26 ct26), sl26⟩)
    (c26 : PySem.W.codeIn K cd26 "_law_wire_new" = true)
    (k26 : PySem.W.keepIn K (.ref f26) = true)
    (a27 : PySem.W.nsIn K mainGlobals "_law_wire_made" = some (some (.ref f27)))
    (l27 : K.lookup f27 = some ⟨oc27, od27, .func (PySem.W.fnOf "_law_wire_made" "_law_wire_made" (defArgs s__law_wire_made) (defBody s__law_wire_made) (defScope s__law_wire_made) .none kV27 dc27 pm27 an27 cd27 ct27), sl27⟩)
    (c27 : PySem.W.codeIn K cd27 "_law_wire_made" = true)
    (k27 : PySem.W.keepIn K (.ref f27) = true)
    (a28 : PySem.W.nsIn K mainGlobals "_law_pairs" = some (some (.ref f28)))
    (l28 : K.lookup f28 = some ⟨oc28, od28, .func (PySem.W.fnOf "_law_pairs" "_law_pairs" (defArgs s__law_pairs) (defBody s__law_pairs) (defScope s__law_pairs) .none kV28 dc28 pm28 an28 cd28 ct28), sl28⟩)
    (c28 : PySem.W.codeIn K cd28 "_law_pairs" = true)
    (k28 : PySem.W.keepIn K (.ref f28) = true)
    (a29 : PySem.W.nsIn K mainGlobals "law" = some (some (.ref f29)))
    (l29 : K.lookup f29 = some ⟨oc29, od29, .func (PySem.W.fnOf "law" "law" (defArgs s_law) (defBody s_law) (defScope s_law) .none kV29 dc29 pm29 an29 (.ref cL_) ct29), sl29⟩)
    (c29 : PySem.W.codeIn K (.ref cL_) "law" = true)
    (k29 : PySem.W.keepIn K (.ref f29) = true)
    (t1 : K.lookup cL_ = some ⟨eT, ddT, .fields vsT, slT⟩)
    (t2 : (vsT[11]? : Option Value) = some (.ref tP))
    (t3 : PySem.W.codeHdIn K cL_ tP = true)
    (t4 : K.lookup tP = none)
    (e1 : PySem.W.nsIn K mainGlobals "LineError" = some (some (.ref cLE)))
    (e2 : PySem.W.specialIn K (.ref cLE) "__getattribute__" = some (some (.builtin "type.__getattribute__")))
    (e3 : PySem.W.typeIn K (.ref cLE) = some (.type "type"))
    (e4 : PySem.W.readsIn K cLE (.type "type") = true)
    (e5 : PySem.W.findCls K (.ref cLE) (.type "type") "__init__" = some (.val (.ref fLE)))
    (e6 : PySem.W.keepIn K (.ref fLE) = true)
    (e7 : K.lookup fLE = some ⟨ocLE, odLE, .func (PySem.W.fnOf "__init__" "LineError.__init__" (defArgs i_LineError) (defBody i_LineError) (defScope i_LineError) (.ref dLE) kVLE dcLE pmLE anLE cdLE ctLE), slLE⟩)
    (e8 : PySem.W.codeIn K cdLE "LineError.__init__" = true)
    (e9 : K.lookup dLE = some ⟨.type "tuple", oD, .seq #[.str "LineError" tLe1, .str "refused" tLe2] mD, slD⟩)
    (e10 : PySem.W.findCls K (.type "ValueError") (.type "type") "__init__" = some (.val (.builtin "ValueError.__init__")))
    (z_ValueError : PySem.W.nsIn K mainGlobals "ValueError" = some none)
    (gBadTaps : PySem.W.nsIn K mainGlobals "BadTaps" = some (some (.ref xBadTaps)))
    (gaBadTaps : PySem.W.findIn K (.ref xBadTaps) "__getattribute__" = some (some (.builtin "BaseException.__getattribute__")))
    (ggBadTaps : PySem.W.findIn K (.ref xBadTaps) "__getattr__" = some none)
    (exBadTaps : PySem.W.subIn K (.ref xBadTaps) (.type "BaseException") = some true)
    (hdBadTaps : PySem.W.hasDictIn K xBadTaps = true)
    (gBadNoise : PySem.W.nsIn K mainGlobals "BadNoise" = some (some (.ref xBadNoise)))
    (gaBadNoise : PySem.W.findIn K (.ref xBadNoise) "__getattribute__" = some (some (.builtin "BaseException.__getattribute__")))
    (ggBadNoise : PySem.W.findIn K (.ref xBadNoise) "__getattr__" = some none)
    (exBadNoise : PySem.W.subIn K (.ref xBadNoise) (.type "BaseException") = some true)
    (hdBadNoise : PySem.W.hasDictIn K xBadNoise = true)
    (gMissing : PySem.W.nsIn K mainGlobals "Missing" = some (some (.ref xMissing)))
    (mBLineBadTaps : PySem.W.exmOne K (.ref xBadTaps) (.ref cLE) = some true)
    (mBLineBadNoise : PySem.W.exmOne K (.ref xBadNoise) (.ref cLE) = some true)
    (o1BadTaps : K.lookup xBadTaps = some (excClassObj nmBadTaps qBadTaps xBadTaps NBadTaps bsBadTaps bmBadTaps true snBadTaps subBadTaps abBadTaps colBadTaps ddBadTaps kaBadTaps kbBadTaps kcBadTaps kdBadTaps keBadTaps "ValueError.__new__"))
    (o2BadTaps : PySem.HandSPX.refsVE bmBadTaps = true)
    (o3BadTaps : PySem.W.findIn K (.ref xBadTaps) "__setattr__" = some (some (.builtin "object.__setattr__")))
    (o4BadTaps : PySem.W.typeIn K (.ref xBadTaps) = some (.type "type"))
    (o5BadTaps : PySem.W.keepIn K (.ref xBadTaps) = true)
    (o6BadTaps : PySem.W.findIn K (.ref xBadTaps) "__init__" = some (some (.ref fIBadTaps)))
    (o7BadTaps : PySem.W.typeIn K (.ref fIBadTaps) = some (.type "function"))
    (o8BadTaps : K.lookup fIBadTaps = some ⟨ocBadTaps, odBadTaps, .func (PySem.W.fnOf "__init__" "BadTaps.__init__" (defArgs i_BadTaps) (defBody i_BadTaps) (defScope i_BadTaps) .none kVBadTaps dcBadTaps pmBadTaps anBadTaps cdBadTaps ctBadTaps), slBadTaps⟩)
    (o9BadTaps : PySem.W.codeIn K cdBadTaps "BadTaps.__init__" = true)
    (p1BadTaps : PySem.W.keepIn K (.ref fIBadTaps) = true)
    (p2BadTaps : PySem.W.findIn K (.ref xBadTaps) "word" = some none)
    (o1BadNoise : K.lookup xBadNoise = some (excClassObj nmBadNoise qBadNoise xBadNoise NBadNoise bsBadNoise bmBadNoise true snBadNoise subBadNoise abBadNoise colBadNoise ddBadNoise kaBadNoise kbBadNoise kcBadNoise kdBadNoise keBadNoise "ValueError.__new__"))
    (o2BadNoise : PySem.HandSPX.refsVE bmBadNoise = true)
    (o3BadNoise : PySem.W.findIn K (.ref xBadNoise) "__setattr__" = some (some (.builtin "object.__setattr__")))
    (o4BadNoise : PySem.W.typeIn K (.ref xBadNoise) = some (.type "type"))
    (o5BadNoise : PySem.W.keepIn K (.ref xBadNoise) = true)
    (o6BadNoise : PySem.W.findIn K (.ref xBadNoise) "__init__" = some (some (.ref fIBadNoise)))
    (o7BadNoise : PySem.W.typeIn K (.ref fIBadNoise) = some (.type "function"))
    (o8BadNoise : K.lookup fIBadNoise = some ⟨ocBadNoise, odBadNoise, .func (PySem.W.fnOf "__init__" "BadNoise.__init__" (defArgs i_BadNoise) (defBody i_BadNoise) (defScope i_BadNoise) .none kVBadNoise dcBadNoise pmBadNoise anBadNoise cdBadNoise ctBadNoise), slBadNoise⟩)
    (o9BadNoise : PySem.W.codeIn K cdBadNoise "BadNoise.__init__" = true)
    (p1BadNoise : PySem.W.keepIn K (.ref fIBadNoise) = true)
    (p2BadNoise : PySem.W.findIn K (.ref xBadNoise) "word" = some none)
    (z_len : PySem.W.nsIn K mainGlobals "len" = some none)
    (z_tuple : PySem.W.nsIn K mainGlobals "tuple" = some none)
    (z_abs : PySem.W.nsIn K mainGlobals "abs" = some none)
    (z_sum : PySem.W.nsIn K mainGlobals "sum" = some none)
    (z_zip : PySem.W.nsIn K mainGlobals "zip" = some none)
    (z_isinstance : PySem.W.nsIn K mainGlobals "isinstance" = some none)
    (z_list : PySem.W.nsIn K mainGlobals "list" = some none)
    (z_max : PySem.W.nsIn K mainGlobals "max" = some none)
    (z_all : PySem.W.nsIn K mainGlobals "all" = some none)
    (z_bool : PySem.W.nsIn K mainGlobals "bool" = some none)
    (z_int : PySem.W.nsIn K mainGlobals "int" = some none)
    (z_range : PySem.W.nsIn K mainGlobals "range" = some none)
    (z_str : PySem.W.nsIn K mainGlobals "str" = some none)
    (q_MOST_SHARES : PySem.W.nsIn K mainGlobals "MOST_SHARES" = some (some (.int 4 t_MOST_SHARES)))
    (q_GREATEST_SHARE : PySem.W.nsIn K mainGlobals "GREATEST_SHARE" = some (some (.int 3 t_GREATEST_SHARE)))
    (q_STRONG : PySem.W.nsIn K mainGlobals "STRONG" = some (some (.int 1000 t_STRONG)))
    (q_PROBE_BEATS : PySem.W.nsIn K mainGlobals "PROBE_BEATS" = some (some (.int 5 t_PROBE_BEATS)))
    (q_TRAINING_BEATS : PySem.W.nsIn K mainGlobals "TRAINING_BEATS" = some (some (.int 20 t_TRAINING_BEATS))) :
    LamX.LawAtS l w K CX0 11 63 "_law_script" mg fa h := by
  have e := hfa.symm.trans (PySem.W.mg_of X G a29)
  cases e
  have F0 := fun_mk (st := s_without_last_noughts) l0 c0 k0
  have b0 := F0.binds (ps := ["numbers"]) fun _ _ _ _ _ _ us hl => match us, hl with | [_], _ => rfl
  have F1 := fun_mk (st := s_right_shares) l1 c1 k1
  have b1 := F1.binds (ps := ["numbers"]) fun _ _ _ _ _ _ us hl => match us, hl with | [_], _ => rfl
  have F2 := fun_mk (st := s_left_behind) l2 c2 k2
  have b2 := F2.binds (ps := ["shares", "tones"]) fun _ _ _ _ _ _ us hl => match us, hl with | [_, _], _ => rfl
  have F3 := fun_mk (st := s_no_tones) l3 c3 k3
  have b3 := F3.binds (ps := []) fun _ _ _ _ _ _ us hl => match us, hl with | [], _ => rfl
  have F4 := fun_mk (st := s_with_latest) l4 c4 k4
  have b4 := F4.binds (ps := ["tone", "tones"]) fun _ _ _ _ _ _ us hl => match us, hl with | [_, _], _ => rfl
  have F5 := fun_mk (st := s_probe) l5 c5 k5
  have b5 := F5.binds (ps := []) fun _ _ _ _ _ _ us hl => match us, hl with | [], _ => rfl
  have F6 := fun_mk (st := s_shares_of) l6 c6 k6
  have b6 := F6.binds (ps := ["heard"]) fun _ _ _ _ _ _ us hl => match us, hl with | [_], _ => rfl
  have F7 := fun_mk (st := s_counts_of_probe) l7 c7 k7
  have b7 := F7.binds (ps := ["heard"]) fun _ _ _ _ _ _ us hl => match us, hl with | [_], _ => rfl
  have F8 := fun_mk (st := s_taps_of) l8 c8 k8
  have b8 := F8.binds (ps := ["heard"]) fun _ _ _ _ _ _ us hl => match us, hl with | [_], _ => rfl
  have F9 := fun_mk (st := s_echo_of) l9 c9 k9
  have b9 := F9.binds (ps := ["heard"]) fun _ _ _ _ _ _ us hl => match us, hl with | [_], _ => rfl
  have F10 : FunD K "__init__" "Wire.__init__" (defArgs m_Wire___init__) (defBody m_Wire___init__) (defScope m_Wire___init__) [] [("forth", .ref e10_10), ("back", .ref e10_11), ("near", .ref e10_12), ("far", .ref e10_13)] f10 _ := ⟨⟨_, _, _, _, _, _, _, _, _, _, rfl, l10, c10, .inl ⟨rfl, rfl⟩, .inr ⟨D10, rfl, by
    intro q hq
    simp only [List.mem_cons, List.not_mem_nil, or_false] at hq
    rcases hq with rfl | rfl | rfl | rfl
    · exact ⟨_, v10_0, rfl⟩
    · exact ⟨_, v10_1, rfl⟩
    · exact ⟨_, v10_2, rfl⟩
    · exact ⟨_, v10_3, rfl⟩⟩⟩, k10⟩
  have h_e10_10 : ∀ H, SqT K H e10_10 [] := fun H => .inr ⟨_, _, _, w_e10_10, rfl, rfl, (by show 0 ≤ sizeLine; decide), .nil⟩
  have h_e10_11 : ∀ H, SqT K H e10_11 [] := fun H => .inr ⟨_, _, _, w_e10_11, rfl, rfl, (by show 0 ≤ sizeLine; decide), .nil⟩
  have h_e10_12 : ∀ H, SqT K H e10_12 [] := fun H => .inr ⟨_, _, _, w_e10_12, rfl, rfl, (by show 0 ≤ sizeLine; decide), .nil⟩
  have h_e10_13 : ∀ H, SqT K H e10_13 [] := fun H => .inr ⟨_, _, _, w_e10_13, rfl, rfl, (by show 0 ≤ sizeLine; decide), .nil⟩
  have F11 := fun_mk (st := m_Wire___eq__) l11 c11 k11
  have b11 := F11.binds (ps := ["self", "other"]) fun _ _ _ _ _ _ us hl => match us, hl with | [_, _], _ => rfl
  have F12 : FunD K "beat" "Wire.beat" (defArgs m_Wire_beat) (defBody m_Wire_beat) (defScope m_Wire_beat) [] [("noise", .ref e12_10)] f12 _ := ⟨⟨_, _, _, _, _, _, _, _, _, _, rfl, l12, c12, .inl ⟨rfl, rfl⟩, .inr ⟨D12, rfl, by
    intro q hq
    simp only [List.mem_cons, List.not_mem_nil, or_false] at hq
    rcases hq with rfl
    · exact ⟨_, v12_0, rfl⟩⟩⟩, k12⟩
  have h_e12_10 : ∀ H, SqT K H e12_10 [.int 0, .int 0] := fun H => .inr ⟨_, _, _, w_e12_10, rfl, rfl, (by show 2 ≤ sizeLine; decide), .cons ⟨_, rfl⟩ (.cons ⟨_, rfl⟩ (.nil))⟩
  have F13 := fun_mk (st := m_Wire_hush) l13 c13 k13
  have b13 := F13.binds (ps := ["self"]) fun _ _ _ _ _ _ us hl => match us, hl with | [_], _ => rfl
  have F14 := fun_mk (st := m_Wire_twin) l14 c14 k14
  have b14 := F14.binds (ps := ["self"]) fun _ _ _ _ _ _ us hl => match us, hl with | [_], _ => rfl
  have F15 := fun_mk (st := s_training_tones) l15 c15 k15
  have b15 := F15.binds (ps := []) fun _ _ _ _ _ _ us hl => match us, hl with | [], _ => rfl
  have F16 := fun_mk (st := s_trained) l16 c16 k16
  have b16 := F16.binds (ps := ["wire", "noises"]) fun _ _ _ _ _ _ us hl => match us, hl with | [_, _], _ => rfl
  have F17 := fun_mk (st := s__law_bag) l17 c17 k17
  have b17 := F17.binds (ps := ["_law_script"]) fun _ _ _ _ _ _ us hl => match us, hl with | [_], _ => rfl
  have F18 := fun_mk (st := s__law_pick) l18 c18 k18
  have b18 := F18.binds (ps := ["_law_bag_here", "_law_top"]) fun _ _ _ _ _ _ us hl => match us, hl with | [_, _], _ => rfl
  have F19 := fun_mk (st := s__law_of) l19 c19 k19
  have b19 := F19.binds (ps := ["_law_bag_here", "_law_some"]) fun _ _ _ _ _ _ us hl => match us, hl with | [_, _], _ => rfl
  have F20 := fun_mk (st := s__law_same) l20 c20 k20
  have b20 := F20.binds (ps := ["_law_found", "_law_due"]) fun _ _ _ _ _ _ us hl => match us, hl with | [_, _], _ => rfl
  have F21 := fun_mk (st := s__law_tried) l21 c21 k21
  have b21 := F21.binds (ps := ["_law_act"]) fun _ _ _ _ _ _ us hl => match us, hl with | [_], _ => rfl
  have F22 := fun_mk (st := s__law_far) l22 c22 k22
  have b22 := F22.binds (ps := ["_law_bag_here"]) fun _ _ _ _ _ _ us hl => match us, hl with | [_], _ => rfl
  have F23 := fun_mk (st := s__law_tone) l23 c23 k23
  have b23 := F23.binds (ps := ["_law_bag_here"]) fun _ _ _ _ _ _ us hl => match us, hl with | [_], _ => rfl
  have F24 := fun_mk (st := s__law_shares) l24 c24 k24
  have b24 := F24.binds (ps := ["_law_bag_here"]) fun _ _ _ _ _ _ us hl => match us, hl with | [_], _ => rfl
  have F25 := fun_mk (st := s__law_trimmed) l25 c25 k25
  have b25 := F25.binds (ps := ["_law_figures"]) fun _ _ _ _ _ _ us hl => match us, hl with | [_], _ => rfl
  have F26 := fun_mk (st := s__law_wire_new) l26 c26 k26
  have b26 := F26.binds (ps := ["_law_bag_here"]) fun _ _ _ _ _ _ us hl => match us, hl with | [_], _ => rfl
  have F27 := fun_mk (st := s__law_wire_made) l27 c27 k27
  have b27 := F27.binds (ps := ["_law_state"]) fun _ _ _ _ _ _ us hl => match us, hl with | [_], _ => rfl
  have F28 := fun_mk (st := s__law_pairs) l28 c28 k28
  have b28 := F28.binds (ps := ["_law_bag_here", "_law_size", "_law_most"]) fun _ _ _ _ _ _ us hl => match us, hl with | [_, _, _], _ => rfl
  have F29 := fun_mk (st := s_law) l29 c29 k29
  have b29 := F29.binds (ps := ["_law_script"]) fun _ _ _ _ _ _ us hl => match us, hl with | [_], _ => rfl
  have clsWire : Cls K cWire := ⟨r2Wire, r3Wire, r4Wire, r5Wire⟩
  have R_Wire : WrC K cWire := ⟨clsWire, r_Wire_four, r_Wire_one_tones, r_Wire_other_tones⟩
  have IS_Wire : IsiC K cWire := ⟨is1_Wire, is2_Wire, is3_Wire, mr_Wire, is5_Wire⟩
  have FD : FunD K "__init__" "LineError.__init__" (defArgs i_LineError) (defBody i_LineError) (defScope i_LineError) [.str "LineError", .str "refused"] [] fLE (PySem.W.fnOf "__init__" "LineError.__init__" (defArgs i_LineError) (defBody i_LineError) (defScope i_LineError) (.ref dLE) kVLE dcLE pmLE anLE cdLE ctLE) := ⟨⟨_, _, _, _, _, _, _, _, _, _, rfl, e7, e8, .inr ⟨by simp, dLE, _, _, _, rfl, e9, rfl, .cons ⟨_, rfl⟩ (.cons ⟨_, rfl⟩ .nil)⟩, .inl rfl⟩, e6⟩
  have bLE : Binds K (PySem.W.fnOf "__init__" "LineError.__init__" (defArgs i_LineError) (defBody i_LineError) (defScope i_LineError) (.ref dLE) kVLE dcLE pmLE anLE cdLE ctLE) ["self", "word", "text"] [] := by
    obtain ⟨ds, r, hb⟩ := FD.binds1 (ps := ["self", "word", "text"]) 3 2 (by simp) rfl (fun T kV doc pm an cdv ct us its hu hi => match us, its, hu, hi with | [_, _, _], [_, _], _, _ => ⟨_, rfl, rfl⟩)
    cases r
    exact hb
  have TL : ClsFn K mg "LineError" "__init__" cLE fLE := ⟨PySem.W.mg_of X G e1, e2, e3, e4, e5, rfl, e6⟩
  have OBadTaps : OexC K xBadTaps := ⟨⟨_, _, _, _, _, _, _, _, _, _, _, _, _, _, _, o1BadTaps, o2BadTaps⟩, o3BadTaps, exBadTaps, o4BadTaps, o5BadTaps⟩
  have FIBadTaps := fun_mk (st := i_BadTaps) o8BadTaps o9BadTaps p1BadTaps
  have bIBadTaps := FIBadTaps.binds (ps := ["self"]) fun _ _ _ _ _ _ us hl => match us, hl with | [_], _ => rfl
  have OBadNoise : OexC K xBadNoise := ⟨⟨_, _, _, _, _, _, _, _, _, _, _, _, _, _, _, o1BadNoise, o2BadNoise⟩, o3BadNoise, exBadNoise, o4BadNoise, o5BadNoise⟩
  have FIBadNoise := fun_mk (st := i_BadNoise) o8BadNoise o9BadNoise p1BadNoise
  have bIBadNoise := FIBadNoise.binds (ps := ["self"]) fun _ _ _ _ _ _ us hl => match us, hl with | [_], _ => rfl
  refine ⟨PySem.W.fnOf "law" "law" (defArgs s_law) (defBody s_law) (defScope s_law) .none kV29 dc29 pm29 an29 (.ref cL_) ct29, [(cL_, tP)], spLaw K tP, ?_, ?_, ?_, fun s v => .of_eq rfl, ?_, fun base _ _ hTB => ?_⟩
  · intro p hp
    rw [List.mem_singleton.mp hp]
    exact own cL_ tP _ _ _ _ _ _ l29 rfl rfl t1 t2
  · intro p hp
    rw [List.mem_singleton.mp hp]
    exact t4
  · intro p hp
    rw [List.mem_singleton.mp hp]
    exact PySem.W.codeHd_of_K X t3
  · intro H a ns _ _ hH hS
    exact ⟨a, ns, rfl, hS, hH _ (List.mem_singleton.mpr rfl), fun _ => rfl⟩
  have OKL := ok_i_LineError (P := l.prog) (w := w) (base := base) (mg := mg) (k := 0) FD (PySem.W.mg_none_of X G z_ValueError) e10
  have X_BadTaps : XcOk l.prog w K mg base 2 "BadTaps" xBadTaps (spIni0 K xBadTaps "BadTaps") := ⟨fIBadTaps, _, _, OBadTaps, o6BadTaps, o7BadTaps, ok_i_BadTaps FIBadTaps TL OKL bLE OBadTaps p2BadTaps, bIBadTaps, PySem.W.mg_of X G gBadTaps⟩
  have X_BadNoise : XcOk l.prog w K mg base 2 "BadNoise" xBadNoise (spIni0 K xBadNoise "BadNoise") := ⟨fIBadNoise, _, _, OBadNoise, o6BadNoise, o7BadNoise, ok_i_BadNoise FIBadNoise TL OKL bLE OBadNoise p2BadNoise, bIBadNoise, PySem.W.mg_of X G gBadNoise⟩
  have TB := hTB _ (List.mem_singleton.mpr rfl)
  have C_without_last_noughts : Cal l.prog w K mg base 1 "without_last_noughts" ["numbers"] (spWN K) := ⟨f0, _, ok_without_last_noughts F0 (PySem.W.mg_none_of X G z_len) (PySem.W.mg_none_of X G z_tuple), PySem.W.mg_of X G a0, k0, b0⟩
  have C_right_shares : CalX l.prog w K mg base 4 "right_shares" ["numbers"] (spRS K xBadTaps) := ⟨f1, _, ok_right_shares F1 (PySem.W.mg_none_of X G z_len) (PySem.W.mg_none_of X G z_abs) (PySem.W.mg_of X G q_MOST_SHARES) (PySem.W.mg_of X G q_GREATEST_SHARE) (X_BadTaps.mono (by decide)) (C_without_last_noughts.mono (by decide)), PySem.W.mg_of X G a1, k1, b1⟩
  have C_left_behind : Cal l.prog w K mg base 1 "left_behind" ["shares", "tones"] (spLB K) := ⟨f2, _, ok_left_behind F2 (PySem.W.mg_none_of X G z_sum) (PySem.W.mg_none_of X G z_zip), PySem.W.mg_of X G a2, k2, b2⟩
  have C_no_tones : Cal l.prog w K mg base 1 "no_tones" [] (spNT) := ⟨f3, _, ok_no_tones F3 (PySem.W.mg_of X G q_MOST_SHARES), PySem.W.mg_of X G a3, k3, b3⟩
  have C_with_latest : Cal l.prog w K mg base 1 "with_latest" ["tone", "tones"] (spWL K) := ⟨f4, _, ok_with_latest F4 (PySem.W.mg_of X G q_MOST_SHARES), PySem.W.mg_of X G a4, k4, b4⟩
  have C_probe : Cal l.prog w K mg base 1 "probe" [] (spProbe) := ⟨f5, _, ok_probe F5 (PySem.W.mg_of X G q_STRONG) (PySem.W.mg_of X G q_PROBE_BEATS), PySem.W.mg_of X G a5, k5, b5⟩
  have C_shares_of : Cal l.prog w K mg base 1 "shares_of" ["heard"] (spSO K) := ⟨f6, _, ok_shares_of F6 (PySem.W.mg_of X G q_STRONG), PySem.W.mg_of X G a6, k6, b6⟩
  have C_counts_of_probe : CalX l.prog w K mg base 4 "counts_of_probe" ["heard"] (spCP K xBadNoise) := ⟨f7, _, ok_counts_of_probe F7 (PySem.W.mg_none_of X G z_len) (PySem.W.mg_of X G q_PROBE_BEATS) (X_BadNoise.mono (by decide)) (C_shares_of.mono (by decide)), PySem.W.mg_of X G a7, k7, b7⟩
  have C_taps_of : CalX l.prog w K mg base 5 "taps_of" ["heard"] (spTO K xBadTaps xBadNoise) := ⟨f8, _, ok_taps_of F8 (X_BadTaps.mono (by decide)) (C_counts_of_probe.mono (by decide)) (C_right_shares.mono (by decide)), PySem.W.mg_of X G a8, k8, b8⟩
  have C_echo_of : CalX l.prog w K mg base 5 "echo_of" ["heard"] (spEO K xBadTaps xBadNoise) := ⟨f9, _, ok_echo_of F9 (X_BadTaps.mono (by decide)) (C_counts_of_probe.mono (by decide)) (C_right_shares.mono (by decide)), PySem.W.mg_of X G a9, k9, b9⟩
  have O_10 : FnOk l.prog w K mg base (L2.CX l.prog w) 5 f10 _ ["self", "forth", "back", "near", "far"] (spWi K cWire xBadTaps) := ok_Wire___init__ F10 R_Wire (C_right_shares.mono (by decide)) (C_no_tones.mono (by decide))
  have C_nw_Wire_forth_back_near_far : CalNW l.prog w K mg base 5 "Wire" cWire ["self", "forth", "back", "near", "far"] ["forth", "back", "near", "far"] (fun vs zs => vs ++ pickL (zs ++ []) [0, 1, 2, 3]) (spWi K cWire xBadTaps) := by
    obtain ⟨g, hg⟩ := kbn_pick (ps := ["self", "forth", "back", "near", "far"]) F10 1 ["forth", "back", "near", "far"] [] [0, 1, 2, 3] (by intro z; cases z) (by simp) (fun D doc pm an cdv ct us mv ws h1 h2 h3 => match us, mv, ws, h1, h2, h3 with | [_], [], [_, _, _, _], _, _, _ => rfl)
    exact ⟨f10, _, g, ⟨r6Wire, a10, i10, r7Wire⟩, O_10, PySem.W.mg_of X G r1Wire, hg⟩
  have C_nw_Wire_near_back_far_forth : CalNW l.prog w K mg base 5 "Wire" cWire ["self", "forth", "back", "near", "far"] ["near", "back", "far", "forth"] (fun vs zs => vs ++ pickL (zs ++ []) [3, 1, 0, 2]) (spWi K cWire xBadTaps) := by
    obtain ⟨g, hg⟩ := kbn_pick (ps := ["self", "forth", "back", "near", "far"]) F10 1 ["near", "back", "far", "forth"] [] [3, 1, 0, 2] (by intro z; cases z) (by simp) (fun D doc pm an cdv ct us mv ws h1 h2 h3 => match us, mv, ws, h1, h2, h3 with | [_], [], [_, _, _, _], _, _, _ => rfl)
    exact ⟨f10, _, g, ⟨r6Wire, a10, i10, r7Wire⟩, O_10, PySem.W.mg_of X G r1Wire, hg⟩
  have C_nd_Wire : CalND l.prog w K mg base 5 "Wire" cWire ["self", "forth", "back", "near", "far"] [.ref e10_10, .ref e10_11, .ref e10_12, .ref e10_13] (spWi K cWire xBadTaps) := by
    obtain ⟨ds, r, hb⟩ := F10.binds0 (ps := ["self", "forth", "back", "near", "far"]) 1 (by intro z; cases z) rfl (fun D doc pm an cdv ct us ks h1 h2 => match us, ks, h1, h2 with | [_], [_, _, _, _], _, _ => ⟨_, _, _, _, _, _, rfl, rfl, _, _, _, _, _, _, rfl, rfl, _, _, _, _, _, _, rfl, rfl, _, _, _, _, _, _, rfl, rfl, rfl⟩)
    exact ⟨f10, _, ds, ⟨r6Wire, a10, i10, r7Wire⟩, O_10, PySem.W.mg_of X G r1Wire, hb, r⟩
  have R11_ := (FnOk.raw (ok_Wire___eq__ (P := l.prog) (w := w) (base := base) (mg := mg) (k := 0) F11 R_Wire (PySem.W.mg_none_of X G z_isinstance) (PySem.W.mg_of X G r1Wire) IS_Wire) b11 .nil).imp (sp' := spWEq K cWire) (fun vs H Q E h => by rw [List.append_nil]; exact h)
  have OE_Wire : EqF l.prog w K mg base 1 cWire (spWEq K cWire) := ⟨f11, a11, i11, R11_, ne_Wire, mr_Wire⟩
  have O_12 : FnOk l.prog w K mg base (L2.CX l.prog w) 2 f12 _ ["self", "one", "other", "noise"] (spBeat K cWire) := ok_Wire_beat F12 R_Wire (C_left_behind.mono (by decide)) (C_with_latest.mono (by decide))
  have C_mw_Wire_beat_noise : CalMW l.prog w K mg base 2 cWire "beat" ["self", "one", "other", "noise"] 2 ["noise"] (fun vs zs => vs ++ pickL (zs ++ []) [0]) (spBeat K cWire) := by
    obtain ⟨g, hg⟩ := kbn_pick (ps := ["self", "one", "other", "noise"]) F12 3 ["noise"] [] [0] (by intro z; cases z) (by simp) (fun D doc pm an cdv ct us mv ws h1 h2 h3 => match us, mv, ws, h1, h2, h3 with | [_, _, _], [], [_], _, _, _ => rfl)
    exact ⟨f12, _, g, clsWire, ⟨a12, i12, k12⟩, O_12, hg⟩
  have C_md_Wire_beat : CalMD l.prog w K mg base 2 cWire "beat" ["self", "one", "other", "noise"] [.ref e12_10] (spBeat K cWire) := by
    obtain ⟨ds, r, hb⟩ := F12.binds0 (ps := ["self", "one", "other", "noise"]) 3 (by intro z; cases z) rfl (fun D doc pm an cdv ct us ks h1 h2 => match us, ks, h1, h2 with | [_, _, _], [_], _, _ => ⟨_, _, _, _, _, _, rfl, rfl, rfl⟩)
    exact ⟨f12, _, ds, clsWire, ⟨a12, i12, k12⟩, O_12, hb, r⟩
  have C_Wire_hush : CalM CX0 l.prog w K mg base 2 cWire "hush" ["self"] (spHush cWire) := ⟨f13, _, clsWire, ⟨a13, i13, k13⟩, ok_Wire_hush F13 R_Wire (C_no_tones.mono (by decide)), b13⟩
  have C_Wire_twin : CalM CX0 l.prog w K mg base 7 cWire "twin" ["self"] (spWTwin K cWire) := ⟨f14, _, clsWire, ⟨a14, i14, k14⟩, ok_Wire_twin F14 R_Wire (PySem.W.mg_none_of X G z_list) (C_nw_Wire_forth_back_near_far.mono (by decide)), b14⟩
  have C_training_tones : Cal l.prog w K mg base 2 "training_tones" [] (spTT) := ⟨f15, _, ok_training_tones F15 (PySem.W.mg_none_of X G z_list) (PySem.W.mg_none_of X G z_zip) (PySem.W.mg_of X G q_PROBE_BEATS) (C_probe.mono (by decide)), PySem.W.mg_of X G a15, k15, b15⟩
  have C_trained : CalX l.prog w K mg base 8 "trained" ["wire", "noises"] (spTrain K cWire xBadTaps xBadNoise) := ⟨f16, _, ok_trained F16 (PySem.W.mg_none_of X G z_len) (PySem.W.mg_none_of X G z_zip) (PySem.W.mg_none_of X G z_max) (PySem.W.mg_none_of X G z_abs) (PySem.W.mg_of X G q_TRAINING_BEATS) (X_BadNoise.mono (by decide)) (C_training_tones.mono (by decide)) (C_taps_of.mono (by decide)) (C_echo_of.mono (by decide)) (C_Wire_twin.mono (by decide)) (C_Wire_hush.mono (by decide)) (C_mw_Wire_beat_noise.mono (by decide)), PySem.W.mg_of X G a16, k16, b16⟩
  have C__law_bag : Cal l.prog w K mg base 1 "_law_bag" ["_law_script"] (spBag K) := ⟨f17, _, ok__law_bag F17 (PySem.W.mg_none_of X G z_len) (PySem.W.mg_none_of X G z_list), PySem.W.mg_of X G a17, k17, b17⟩
  have C__law_pick : Cal l.prog w K mg base 1 "_law_pick" ["_law_bag_here", "_law_top"] (spPick) := ⟨f18, _, ok__law_pick F18 (PySem.W.mg_none_of X G z_len), PySem.W.mg_of X G a18, k18, b18⟩
  have C__law_pickW : Cal l.prog w K mg base 1 "_law_pick" ["_law_bag_here", "_law_top"] (spPickW) := ⟨f18, _, ok__law_pickW F18 (PySem.W.mg_none_of X G z_len), PySem.W.mg_of X G a18, k18, b18⟩
  have C__law_of : Cal l.prog w K mg base 2 "_law_of" ["_law_bag_here", "_law_some"] (spOf K) := ⟨f19, _, ok__law_of F19 (PySem.W.mg_none_of X G z_len) (C__law_pick.mono (by decide)), PySem.W.mg_of X G a19, k19, b19⟩
  have C__law_same : Cal l.prog w K mg base 3 "_law_same" ["_law_found", "_law_due"] (spSame K 3) := ⟨f20, _, ok__law_same F20 (PySem.W.mg_of X G a20) b20 (PySem.W.mg_none_of X G z_len) (PySem.W.mg_none_of X G z_all) (PySem.W.mg_none_of X G z_bool) (PySem.W.mg_none_of X G z_int) (PySem.W.mg_none_of X G z_isinstance) (PySem.W.mg_none_of X G z_list) (PySem.W.mg_none_of X G z_range) (PySem.W.mg_none_of X G z_str) (PySem.W.mg_none_of X G z_tuple) 3, PySem.W.mg_of X G a20, k20, b20⟩
  have C__law_far : Cal l.prog w K mg base 2 "_law_far" ["_law_bag_here"] (spFar) := ⟨f22, _, ok__law_far F22 (C__law_pickW.mono (by decide)), PySem.W.mg_of X G a22, k22, b22⟩
  have C__law_tone : Cal l.prog w K mg base 3 "_law_tone" ["_law_bag_here"] (spTone) := ⟨f23, _, ok__law_tone F23 (C__law_pick.mono (by decide)) (C__law_of.mono (by decide)) (C__law_far.mono (by decide)), PySem.W.mg_of X G a23, k23, b23⟩
  have C__law_shares : Cal l.prog w K mg base 2 "_law_shares" ["_law_bag_here"] (spShares K) := ⟨f24, _, ok__law_shares F24 (PySem.W.mg_none_of X G z_range) (PySem.W.mg_none_of X G z_tuple) (C__law_pick.mono (by decide)), PySem.W.mg_of X G a24, k24, b24⟩
  have C__law_trimmed : Cal l.prog w K mg base 1 "_law_trimmed" ["_law_figures"] (spTrim K) := ⟨f25, _, ok__law_trimmed F25 (PySem.W.mg_none_of X G z_list) (PySem.W.mg_none_of X G z_tuple), PySem.W.mg_of X G a25, k25, b25⟩
  have C__law_wire_new : Cal l.prog w K mg base 3 "_law_wire_new" ["_law_bag_here"] (spWNew K) := ⟨f26, _, ok__law_wire_new F26 (PySem.W.mg_none_of X G z_range) (C__law_shares.mono (by decide)), PySem.W.mg_of X G a26, k26, b26⟩
  have C__law_wire_made : Cal l.prog w K mg base 7 "_law_wire_made" ["_law_state"] (spWMade K cWire) := ⟨f27, _, ok__law_wire_made F27 (C_nw_Wire_near_back_far_forth.mono (by decide)), PySem.W.mg_of X G a27, k27, b27⟩
  have C__law_pairs : Cal l.prog w K mg base 2 "_law_pairs" ["_law_bag_here", "_law_size", "_law_most"] (spPairs K) := ⟨f28, _, ok__law_pairs F28 (PySem.W.mg_none_of X G z_range) (C__law_pick.mono (by decide)), PySem.W.mg_of X G a28, k28, b28⟩
  exact ok_law l29 c29 TB (PySem.W.mg_of X G e1) l21 c21 k21 (PySem.W.mg_of X G a21) b21 ⟨gaBadTaps, ggBadTaps, exBadTaps, hdBadTaps⟩ p2BadTaps ⟨gaBadNoise, ggBadNoise, exBadNoise, hdBadNoise⟩ p2BadNoise (PySem.W.mg_of X G gMissing) mBLineBadTaps mBLineBadNoise (PySem.W.mg_none_of X G z_abs) (PySem.W.mg_none_of X G z_list) (PySem.W.mg_none_of X G z_max) (PySem.W.mg_none_of X G z_range) h_e12_10 h_e10_10 h_e10_11 h_e10_12 h_e10_13 (C_nd_Wire.mono (by decide)) (C_md_Wire_beat.mono (by decide)) (C_Wire_twin.mono (by decide)) (OE_Wire.mono (by decide)) (C_trained.mono (by decide)) (C_trained.mono (by decide)) (C__law_bag.mono (by decide)) (C__law_pick.mono (by decide)) (C__law_of.mono (by decide)) (C__law_same.mono (by decide)) (C__law_tone.mono (by decide)) (C__law_trimmed.mono (by decide)) (C__law_wire_new.mono (by decide)) (C__law_wire_made.mono (by decide)) (C__law_pairs.mono (by decide))
end WB
open PySem PySem.W PyProof.Rows
set_option maxRecDepth 100000 in
set_option maxHeartbeats 0 in
theorem PySem.Challenge.cw_warbleline_k34_whole_wires_learnt_holds : PySem.Challenge.rw_warbleline_k34_whole_wires_learnt.Holds := by
  w_on; o_law; k_head; (case hw => w_witness2)
  k_fill
  refine LamX.walk_ofOwn (l := PySem.Challenge.rw_warbleline_k34_whole_wires_learnt) (n := 63) (k := 11) (x := "_law_script") (CX := fun _ => L2.CX0) rfl (by decide) rfl ⟨rfl, by decide, by decide⟩ (by decide +kernel) (fun w h Y => PySem.W.km_in_of Y) ?F (fun _ _ _ _ _ h => h)
  case F =>
    intro w mg fa h Y KX G hmg own
    refine' WB.all_mk KX G hmg own ?r1Wire ?r2Wire ?r3Wire ?r4Wire ?r5Wire ?r6Wire ?r7Wire ?r_Wire_four ?r_Wire_one_tones ?r_Wire_other_tones ?mr_Wire ?ne_Wire ?is1_Wire ?is2_Wire ?is3_Wire ?is5_Wire ?a0 ?l0 ?c0 ?k0 ?a1 ?l1 ?c1 ?k1 ?a2 ?l2 ?c2 ?k2 ?a3 ?l3 ?c3 ?k3 ?a4 ?l4 ?c4 ?k4 ?a5 ?l5 ?c5 ?k5 ?a6 ?l6 ?c6 ?k6 ?a7 ?l7 ?c7 ?k7 ?a8 ?l8 ?c8 ?k8 ?a9 ?l9 ?c9 ?k9 ?a10 ?i10 ?l10 ?v10_0 ?v10_1 ?v10_2 ?v10_3 ?w_e10_10 ?w_e10_11 ?w_e10_12 ?w_e10_13 ?c10 ?k10 ?a11 ?i11 ?l11 ?c11 ?k11 ?a12 ?i12 ?l12 ?v12_0 ?w_e12_10 ?c12 ?k12 ?a13 ?i13 ?l13 ?c13 ?k13 ?a14 ?i14 ?l14 ?c14 ?k14 ?a15 ?l15 ?c15 ?k15 ?a16 ?l16 ?c16 ?k16 ?a17 ?l17 ?c17 ?k17 ?a18 ?l18 ?c18 ?k18 ?a19 ?l19 ?c19 ?k19 ?a20 ?l20 ?c20 ?k20 ?a21 ?l21 ?c21 ?k21 ?a22 ?l22 ?c22 ?k22 ?a23 ?l23 ?c23 ?k23 ?a24 ?l24 ?c24 ?k24 ?a25 ?l25 ?c25 ?k25 ?a26 ?l26 ?c26 ?k26 ?a27 ?l27 ?c27 ?k27 ?a28 ?l28 ?c28 ?k28 ?a29 ?l29 ?c29 ?k29 ?t1 ?t2 ?t3 ?t4 ?e1 ?e2 ?e3 ?e4 ?e5 ?e6 ?e7 ?e8 ?e9 ?e10 ?z_ValueError ?gBadTaps ?gaBadTaps ?ggBadTaps ?exBadTaps ?hdBadTaps ?gBadNoise ?gaBadNoise ?ggBadNoise ?exBadNoise ?hdBadNoise ?gMissing ?mBLineBadTaps ?mBLineBadNoise ?o1BadTaps ?o2BadTaps ?o3BadTaps ?o4BadTaps ?o5BadTaps ?o6BadTaps ?o7BadTaps ?o8BadTaps ?o9BadTaps ?p1BadTaps ?p2BadTaps ?o1BadNoise ?o2BadNoise ?o3BadNoise ?o4BadNoise ?o5BadNoise ?o6BadNoise ?o7BadNoise ?o8BadNoise ?o9BadNoise ?p1BadNoise ?p2BadNoise ?z_len ?z_tuple ?z_abs ?z_sum ?z_zip ?z_isinstance ?z_list ?z_max ?z_all ?z_bool ?z_int ?z_range ?z_str ?q_MOST_SHARES ?q_GREATEST_SHARE ?q_STRONG ?q_PROBE_BEATS ?q_TRAINING_BEATS
    (case r1Wire => k_is)
    (case r2Wire => k_is)
    (case r3Wire => k_is)
    (case r4Wire => k_is)
    (case r5Wire => k_is)
    (case r6Wire => k_is)
    (case r7Wire => k_is)
    (case r_Wire_four => k_is)
    (case r_Wire_one_tones => k_is)
    (case r_Wire_other_tones => k_is)
    (case mr_Wire => k_is)
    (case ne_Wire => k_is)
    (case is1_Wire => k_is)
    (case is2_Wire => k_is)
    (case is3_Wire => k_is)
    (case is5_Wire => kernel_rfl)
    (case a0 => k_is)
    (case l0 => k_is)
    (case c0 => k_is)
    (case k0 => k_is)
    (case a1 => k_is)
    (case l1 => k_is)
    (case c1 => k_is)
    (case k1 => k_is)
    (case a2 => k_is)
    (case l2 => k_is)
    (case c2 => k_is)
    (case k2 => k_is)
    (case a3 => k_is)
    (case l3 => k_is)
    (case c3 => k_is)
    (case k3 => k_is)
    (case a4 => k_is)
    (case l4 => k_is)
    (case c4 => k_is)
    (case k4 => k_is)
    (case a5 => k_is)
    (case l5 => k_is)
    (case c5 => k_is)
    (case k5 => k_is)
    (case a6 => k_is)
    (case l6 => k_is)
    (case c6 => k_is)
    (case k6 => k_is)
    (case a7 => k_is)
    (case l7 => k_is)
    (case c7 => k_is)
    (case k7 => k_is)
    (case a8 => k_is)
    (case l8 => k_is)
    (case c8 => k_is)
    (case k8 => k_is)
    (case a9 => k_is)
    (case l9 => k_is)
    (case c9 => k_is)
    (case k9 => k_is)
    (case a10 => k_is)
    (case i10 => k_is)
    (case l10 => k_is)
    (case v10_0 => k_is)
    (case v10_1 => k_is)
    (case v10_2 => k_is)
    (case v10_3 => k_is)
    (case w_e10_10 => k_is)
    (case w_e10_11 => k_is)
    (case w_e10_12 => k_is)
    (case w_e10_13 => k_is)
    (case c10 => k_is)
    (case k10 => k_is)
    (case a11 => k_is)
    (case i11 => k_is)
    (case l11 => k_is)
    (case c11 => k_is)
    (case k11 => k_is)
    (case a12 => k_is)
    (case i12 => k_is)
    (case l12 => k_is)
    (case v12_0 => k_is)
    (case w_e12_10 => k_is)
    (case c12 => k_is)
    (case k12 => k_is)
    (case a13 => k_is)
    (case i13 => k_is)
    (case l13 => k_is)
    (case c13 => k_is)
    (case k13 => k_is)
    (case a14 => k_is)
    (case i14 => k_is)
    (case l14 => k_is)
    (case c14 => k_is)
    (case k14 => k_is)
    (case a15 => k_is)
    (case l15 => k_is)
    (case c15 => k_is)
    (case k15 => k_is)
    (case a16 => k_is)
    (case l16 => k_is)
    (case c16 => k_is)
    (case k16 => k_is)
    (case a17 => k_is)
    (case l17 => k_is)
    (case c17 => k_is)
    (case k17 => k_is)
    (case a18 => k_is)
    (case l18 => k_is)
    (case c18 => k_is)
    (case k18 => k_is)
    (case a19 => k_is)
    (case l19 => k_is)
    (case c19 => k_is)
    (case k19 => k_is)
    (case a20 => k_is)
    (case l20 => k_is)
    (case c20 => k_is)
    (case k20 => k_is)
    (case a21 => k_is)
    (case l21 => k_is)
    (case c21 => k_is)
    (case k21 => k_is)
    (case a22 => k_is)
    (case l22 => k_is)
    (case c22 => k_is)
    (case k22 => k_is)
    (case a23 => k_is)
    (case l23 => k_is)
    (case c23 => k_is)
    (case k23 => k_is)
    (case a24 => k_is)
    (case l24 => k_is)
    (case c24 => k_is)
    (case k24 => k_is)
    (case a25 => k_is)
    (case l25 => k_is)
    (case c25 => k_is)
    (case k25 => k_is)
    (case a26 => k_is)
    (case l26 => k_is)
    (case c26 => k_is)
    (case k26 => k_is)
    (case a27 => k_is)
    (case l27 => k_is)
    (case c27 => k_is)
    (case k27 => k_is)
    (case a28 => k_is)
    (case l28 => k_is)
    (case c28 => k_is)
    (case k28 => k_is)
    (case a29 => k_is)
    (case l29 => k_is)
    (case c29 => k_is)
    (case k29 => k_is)
    (case t1 => k_is)
    (case t2 => first | rfl | k_is)
    (case t3 => kernel_rfl)
    (case t4 => kernel_rfl)
    (case e1 => k_is)
    (case e2 => k_is)
    (case e3 => k_is)
    (case e4 => k_is)
    (case e5 => k_is)
    (case e6 => k_is)
    (case e7 => k_is)
    (case e8 => k_is)
    (case e9 => k_is)
    (case e10 => k_is)
    (case z_ValueError => k_is)
    (case gBadTaps => k_is)
    (case gaBadTaps => k_is)
    (case ggBadTaps => k_is)
    (case exBadTaps => k_is)
    (case hdBadTaps => k_is)
    (case gBadNoise => k_is)
    (case gaBadNoise => k_is)
    (case ggBadNoise => k_is)
    (case exBadNoise => k_is)
    (case hdBadNoise => k_is)
    (case gMissing => k_is)
    (case mBLineBadTaps => kernel_rfl)
    (case mBLineBadNoise => kernel_rfl)
    (case o1BadTaps => k_is)
    (case o2BadTaps => decide +kernel)
    (case o3BadTaps => k_is)
    (case o4BadTaps => k_is)
    (case o5BadTaps => k_is)
    (case o6BadTaps => k_is)
    (case o7BadTaps => k_is)
    (case o8BadTaps => k_is)
    (case o9BadTaps => k_is)
    (case p1BadTaps => k_is)
    (case p2BadTaps => k_is)
    (case o1BadNoise => k_is)
    (case o2BadNoise => decide +kernel)
    (case o3BadNoise => k_is)
    (case o4BadNoise => k_is)
    (case o5BadNoise => k_is)
    (case o6BadNoise => k_is)
    (case o7BadNoise => k_is)
    (case o8BadNoise => k_is)
    (case o9BadNoise => k_is)
    (case p1BadNoise => k_is)
    (case p2BadNoise => k_is)
    (case z_len => k_is)
    (case z_tuple => k_is)
    (case z_abs => k_is)
    (case z_sum => k_is)
    (case z_zip => k_is)
    (case z_isinstance => k_is)
    (case z_list => k_is)
    (case z_max => k_is)
    (case z_all => k_is)
    (case z_bool => k_is)
    (case z_int => k_is)
    (case z_range => k_is)
    (case z_str => k_is)
    (case q_MOST_SHARES => k_is)
    (case q_GREATEST_SHARE => k_is)
    (case q_STRONG => k_is)
    (case q_PROBE_BEATS => k_is)
    (case q_TRAINING_BEATS => k_is)
