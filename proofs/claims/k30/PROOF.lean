import PyProof.Rows.All
import Wide.All
import OpenK.AllK
import Wide.FinOn
import HandS.Base
import HandS.Call
import HandS.List
import HandS.Comp
import HandS.Ends
import HandS.Iter
import HandS.Text
import HandS.Words
import HandS.WordsList
import HandS.IsInst
import HandS.More
import HandS.Wide
import HandS.Style
import HandS.EndBits
import HandS.Exc
import HandS.ExcOwn
import HandS.ExcInit
import HandS.ExcField
import HandS.TryOnly
import HandS.WordsExc
import HandS.FStr
import HandS.Defaults
import HandS.Lambda
import HandS.EndTab
import HandS.Dict
import HandS.Conv
import HandS.Zip
import HandS.MakeKwOnly
import HandS.Deep
import KE.DatumOrd
import HandS.Rev
import PyProof.Rows.RowBridgeK
import HandS.SetFor
import HandS.Walk
import HandS.TupAny
import KE.GoesZip
import KE.GoesMore
import KE.GoesEnum
import HandS.SlotsOwn
import HandS.DictSub
import PyProof.Conv_bool
import KE.KDictZip
import KE.KDictItemsList
import PyProof.Rows.SortShellAny
import HandS.EndOwn
import HandS.Head0
import HandS.Head1
import HandS.Head2
import HandS.HeadEnd
import HandS.HeadHook1
import HandS.HeadHook2
import HandS.HeadHook3
import HandS.HeadHook4
import HandS.HeadWalk
import HandS.EndOwn
import PySem.Challenge.RW_warbleline_k30_wires_and_shapers_refused
set_option Elab.async false
set_option linter.all false
set_option maxRecDepth 100000
set_option maxHeartbeats 2000000
namespace WB
open PySem PySem.Spec PyProof.Rows L2
/-! ### the head by one run of the kernel: what the written part holds, told by functions of it -/
def memA (a : Addr) (l : List Addr) : Bool := l.any fun b => Nat.beq a b
def addA (seen : List Addr) : List Addr → List Addr → List Addr
  | [], acc => acc
  | a :: r, acc => match memA a seen || memA a acc with
    | true => addA seen r acc
    | false => addA seen r (a :: acc)
/-- what is reached from the front in n steps -/
def asF (g : Addr → Option Obj) : Nat → List Addr → List Addr → List Addr
  | 0, seen, _ => seen
  | n + 1, seen, fr => match addA seen (fr.flatMap fun a => match g a with
      | some o => He.refsD o
      | none => []) [] with
    | [] => seen
    | b :: new => asF g n (seen ++ (b :: new)) (b :: new)
def fdOf (K : PySem.W.Frag) (a : Addr) (k : FuncData → Value) : Value := match K.lookup a with
  | some ⟨_, _, .func fd, _⟩ => k fd
  | _ => .none
abbrev dOf (K : PySem.W.Frag) (a : Addr) : Value := fdOf K a fun fd => fd.defaults
abbrev kOf (K : PySem.W.Frag) (a : Addr) : Value := fdOf K a fun fd => fd.kwdefaults
abbrev cOf (K : PySem.W.Frag) (a : Addr) : Value := fdOf K a fun fd => fd.code
def adV : Value → Addr
  | .ref a => a
  | _ => 0
def tokV : Value → Tok
  | .int _ t => t
  | .str _ t => t
  | _ => default
def vO : Option (Option Value) → Value
  | some (some v) => v
  | _ => .none
def itV (K : PySem.W.Frag) (a : Addr) (j : Nat) : Value := match K.lookup a with
  | some ⟨_, _, .seq its _, _⟩ => its.toList.getD j .none
  | _ => .none
def isRefV (v : Value) : Bool := decide (v = .ref (adV v))
theorem isRef_ok {v : Value} (h : isRefV v = true) : v = .ref (adV v) := of_decide_eq_true h
def eqOO (a b : Option (Option Value)) : Bool := decide (a = b)
theorem eqOO_ok {a b : Option (Option Value)} (h : eqOO a b = true) : a = b := of_decide_eq_true h
def eqV (a b : Value) : Bool := decide (a = b)
theorem eqV_ok {a b : Value} (h : eqV a b = true) : a = b := of_decide_eq_true h
def eqOV (a b : Option Value) : Bool := decide (a = b)
theorem eqOV_ok {a b : Option Value} (h : eqOV a b = true) : a = b := of_decide_eq_true h
def eqOb (a b : Option Bool) : Bool := decide (a = b)
theorem eqOb_ok {a b : Option Bool} (h : eqOb a b = true) : a = b := of_decide_eq_true h
def valIs (x : Option PySem.W.CFound) (v : Value) : Bool := match x with
  | some (.val u) => decide (u = v)
  | _ => false
theorem valIs_ok {x : Option PySem.W.CFound} {v : Value} (h : valIs x v = true) : x = some (.val v) := by
  unfold valIs at h
  split at h
  · rw [of_decide_eq_true h]
  · cases h
def tupC (K : PySem.W.Frag) (a : Addr) (its : Array Value) : Bool := match K.lookup a with
  | some ⟨.type c, _, .seq js _, _⟩ => decide (c = "tuple") && decide (js = its)
  | _ => false
theorem tupC_ok {K : PySem.W.Frag} {a : Addr} {its : Array Value} (h : tupC K a its = true) : ∃ o m sl, K.lookup a = some ⟨.type "tuple", o, .seq its m, sl⟩ := by
  unfold tupC at h
  split at h
  · rename_i c o js m sl e
    obtain ⟨h1, h2⟩ := Bool.and_eq_true_iff.mp h
    rw [of_decide_eq_true h1, of_decide_eq_true h2] at e
    exact ⟨_, _, _, e⟩
  · cases h
def clsC (K : PySem.W.Frag) (C : Addr) : Bool := match K.lookup C with
  | some ⟨.type "type", _, .cls ⟨_, _, .ref C' :: bm, _, _, true, _, _, _, _, false⟩, sl⟩ => (match sl.toList with
    | [_, _, _, _, some (.builtin n), _] => decide (C' = C) && (decide (n = "ValueError.__new__") && PySem.HandSPX.refsVE bm)
    | _ => false)
  | _ => false
theorem clsC_ok {K : PySem.W.Frag} {C : Addr} (h : clsC K C = true) : ∃ nm q N bs bm sn sub ab col dd k0 k1 k2 k3 k5, K.lookup C = some (excClassObj nm q C N bs bm true sn sub ab col dd k0 k1 k2 k3 k5 "ValueError.__new__") ∧ PySem.HandSPX.refsVE bm = true := by
  unfold clsC at h
  split at h
  · rename_i dd nm bs C' bm ns qn sn sub ab col sl e
    split at h
    · rename_i k0 k1 k2 k3 n k5 es
      obtain ⟨h1, h2⟩ := Bool.and_eq_true_iff.mp h
      obtain ⟨h2, h3⟩ := Bool.and_eq_true_iff.mp h2
      have hsl : sl = #[k0, k1, k2, k3, some (.builtin n), k5] := by
        obtain ⟨l⟩ := sl
        simp only at es
        rw [es]
      rw [of_decide_eq_true h1, hsl, of_decide_eq_true h2] at e
      exact ⟨_, _, _, _, _, _, _, _, _, _, _, _, _, _, _, e, h3⟩
    · cases h
  · cases h
def fldC (K : PySem.W.Frag) (c P : Addr) : Bool := match K.lookup c with
  | some ⟨_, _, .fields vs, _⟩ => decide ((vs[11]? : Option Value) = some (.ref P))
  | _ => false
theorem fldC_ok {K : PySem.W.Frag} {c P : Addr} (h : fldC K c P = true) : ∃ e d vs sl, K.lookup c = some ⟨e, d, .fields vs, sl⟩ ∧ (vs[11]? : Option Value) = some (.ref P) := by
  unfold fldC at h
  split at h
  · rename_i e1 d1 vs sl e
    exact ⟨_, _, _, _, e, of_decide_eq_true h⟩
  · cases h
/-! ### the Hook -/
structure SaysB (fn : List He.DefD) (tf : List He.Defn) (ex : List (PySem.W.Frag → List Bool)) (h : Heap) (K : PySem.W.Frag) : Prop where
  e : fn.map (fun d => He.fnW K d.at_) = fn.map He.DefD.val
  more : (ex.all fun p => (p K).all id) = true
  hd : ∀ p ∈ tf, PySem.W.codeHdIn K (He.cT K p).1 (He.cT K p).2 = true
  out : ∀ p ∈ tf, K.lookup (He.cT K p).2 = none
  empty : ∀ p ∈ tf, h.get? (He.cT K p).2 = some { cls := .none, data := .fields #[] }
abbrev KB (n : Nat) (g : Addr → Option Obj) : PySem.W.Frag := He.frT g (asF g n [mainGlobals, cStatics] [mainGlobals])
def obsB (n : Nat) (fn : List He.DefD) (tf : List He.Defn) (ex : List (PySem.W.Frag → List Bool)) (g : Addr → Option Obj) : List He.FnW × Bool :=
  (fn.map fun d => He.fnW (KB n g) d.at_, (ex.all fun p => (p (KB n g)).all id) && He.tabsB g tf (KB n g))
theorem saysB_of {n : Nat} {fn : List He.DefD} {tf : List He.Defn} {ex : List (PySem.W.Frag → List Bool)} {h : Heap} (e : obsB n fn tf ex h.get? = (fn.map He.DefD.val, true)) : SaysB fn tf ex h (KB n h.get?) := by
  have e1 := congrArg (fun z : List He.FnW × Bool => z.1) e
  have e2 : ((ex.all fun p => (p (KB n h.get?)).all id) && He.tabsB h.get? tf (KB n h.get?)) = true := congrArg (fun z : List He.FnW × Bool => z.2) e
  obtain ⟨q1, q2⟩ := Bool.and_eq_true_iff.mp e2
  have key : ∀ p ∈ tf, PySem.W.codeHdIn (KB n h.get?) (He.cT (KB n h.get?) p).1 (He.cT (KB n h.get?) p).2 = true ∧ ∃ o, h.get? (He.cT (KB n h.get?) p).2 = some o ∧ He.emptyTab o = true := fun p hp => by
    obtain ⟨h3, h4⟩ := Bool.and_eq_true_iff.mp (List.all_eq_true.mp q2 p hp)
    refine ⟨h3, ?_⟩
    cases z : h.get? (He.cT (KB n h.get?) p).2 with
    | none =>
      rw [z] at h4
      cases h4
    | some o =>
      rw [z] at h4
      exact ⟨o, rfl, h4⟩
  exact ⟨e1, q1, fun p hp => (key p hp).1, fun p hp => by
    obtain ⟨_, o, q, z⟩ := key p hp
    exact He.frT_none q z, fun p hp => by
    obtain ⟨_, o, q, z⟩ := key p hp
    rw [q, He.emptyTab_eq z]⟩
def hookB (n : Nat) (fn : List He.DefD) (tf : List He.Defn) (ex : List (PySem.W.Frag → List Bool)) : PySem.W.Hook where
  α := List He.FnW × Bool
  obs := fun s => obsB n fn tf ex s.heap.get?
  val := fun _ => (fn.map He.DefD.val, true)
  says := fun _ h => ∃ K : PySem.W.Frag, K.In h ∧ SaysB fn tf ex h K
  of := fun _ _ e => ⟨_, He.frT_in, saysB_of e⟩
  keeps := fun _ _ _ ⟨K, hK, c⟩ k => ⟨K, PySem.W.Frag.In.keeps hK k, ⟨c.e, c.more, c.hd, c.out, fun p hp => k _ _ (c.empty p hp)⟩⟩
theorem obsB_eq {n : Nat} {fn : List He.DefD} {tf : List He.Defn} {ex : List (PySem.W.Frag → List Bool)} {g : Addr → Option Obj} {s : Shared} (h : ∀ a, g a = s.heap.get? a) : obsB n fn tf ex g = (hookB n fn tf ex).obs s := by
  have e : g = s.heap.get? := funext h
  rw [e] <;> rfl
section
variable {fn : List He.DefD} {tf : List He.Defn} {ex : List (PySem.W.Frag → List Bool)} {h : Heap} {K : PySem.W.Frag}
theorem SaysB.b (c : SaysB fn tf ex h K) (j i : Nat) {p : PySem.W.Frag → List Bool} {b : Bool} (hp : ex[j]? = some p) (hb : (p K)[i]? = some b) : b = true :=
  List.all_eq_true.mp (List.all_eq_true.mp c.more p (List.mem_of_getElem? hp)) b (List.mem_of_getElem? hb)
theorem SaysB.fnAt (c : SaysB fn tf ex h K) (i : Nat) {d : He.DefD} {dv kv cv : Value} (hi : fn[i]? = some d) (hd : dOf K (He.fAd K d.at_) = dv) (hk : kOf K (He.fAd K d.at_) = kv) (hc : cOf K (He.fAd K d.at_) = cv) :
    ∃ oc od dc pm an ct sl, K.lookup (He.fAd K d.at_) = some ⟨oc, od, .func (PySem.W.fnOf d.name d.qual d.params d.body d.scope dv kv dc pm an cv ct), sl⟩ := by
  have e2 : (fn.map fun d => He.fnW K d.at_)[i]? = (fn.map He.DefD.val)[i]? := by rw [c.e]
  rw [List.getElem?_map, List.getElem?_map, hi] at e2
  have e : He.fnW K d.at_ = d.val := Option.some.inj e2
  unfold He.fnW at e
  unfold dOf fdOf at hd
  unfold kOf fdOf at hk
  unfold cOf fdOf at hc
  cases q : K.lookup (He.fAd K d.at_) with
  | none =>
    rw [q] at e
    cases e
  | some o =>
    obtain ⟨oc, od, dt, osl⟩ := o
    rw [q] at e hd hk hc
    cases dt with
    | func fd =>
      obtain ⟨n1, n2, n3, n4, n5, n6, n7, n8, n9, n10, n11, n12, n13, n14, n15⟩ := fd
      have e2 : (some (n1, n2, n3, n4, n5, n6, n7, n15) : He.FnW) = some (d.name, d.qual, d.params, .stmts d.body, d.scope, mainGlobals, [], builtinsNs) := e
      simp only [Option.some.injEq, Prod.mk.injEq] at e2
      obtain ⟨h1, h2, h3, h4, h5, h6, h7, h8⟩ := e2
      subst h1 h2 h3 h4 h5 h6 h7 h8
      have hd : n8 = dv := hd
      have hk : n9 = kv := hk
      have hc : n13 = cv := hc
      subst hd hk hc
      exact ⟨oc, od, n10, n11, n12, n14, osl, rfl⟩
    | _ => cases e
end
/-! ### the run in parts: the kernel frees what a part took -/
section
variable {n : Nat} {fn : List He.DefD} {ex : List (PySem.W.Frag → List Bool)} {K : PySem.W.Frag}
def fnE (K : PySem.W.Frag) (fn : List He.DefD) : List He.FnW := fn.map fun d => He.fnW K d.at_
def exE (K : PySem.W.Frag) (ex : List (PySem.W.Frag → List Bool)) : Bool := ex.all fun p => (p K).all id
theorem fn_two (m : Nat) (h1 : fnE K (fn.take m) = (fn.take m).map He.DefD.val) (h2 : fnE K (fn.drop m) = (fn.drop m).map He.DefD.val) : fnE K fn = fn.map He.DefD.val := by
  unfold fnE at *
  rw [← List.take_append_drop m fn, List.map_append, List.map_append, h1, h2]
theorem ex_two (m : Nat) (h1 : exE K (ex.take m) = true) (h2 : exE K (ex.drop m) = true) : exE K ex = true := by
  unfold exE at *
  rw [← List.take_append_drop m ex, List.all_append, h1, h2]
  rfl
theorem run_get {S α : Type} {x : Option S} {f : S → α} {a : α} (h : x.map f = some a) : ∃ s, x = some s ∧ f s = a := by
  cases x with
  | none => cases h
  | some s => exact ⟨s, rfl, Option.some.inj h⟩
theorem run_at {S α : Type} {x : Option S} {s : S} (e : x = some s) {f : S → α} {a : α} (h : x.map f = some a) : f s = a := by
  rw [e] at h
  exact Option.some.inj h
theorem run_all {S β : Type} {x : Option S} {s : S} (e : x = some s) {f : S → Bool} {g : S → β} {o : S → List He.FnW × Bool} {b : β} {v : List He.FnW} (h1 : f s = true) (h2 : g s = b) (h3 : (o s).1 = v) (h4 : (o s).2 = true) : x.map (fun s => (f s, g s, o s)) = some (true, b, (v, true)) := by
  rw [e]
  show some (f s, g s, o s) = _
  rw [h1, h2, ← h3, ← h4]
end
section
variable {n : Nat} {fn : List He.DefD} {tf : List He.Defn} {ex : List (PySem.W.Frag → List Bool)} {g : Addr → Option Obj}
theorem obsB_one {v : List He.FnW} (h : fnE (KB n g) fn = v) : (obsB n fn tf ex g).1 = v := h
theorem obsB_two (h1 : exE (KB n g) ex = true) (h2 : He.tabsB g tf (KB n g) = true) : (obsB n fn tf ex g).2 = true := by
  show (exE (KB n g) ex && He.tabsB g tf (KB n g)) = true
  rw [h1, h2]
  rfl
end
theorem runEq_of {r : PySem.W.OpenRow} {q : Program} {n M : Nat} {fn : List He.DefD} {tf : List He.Defn} {ex : List (PySem.W.Frag → List Bool)} {loose : List Str} {w : World}
    (h1 : ∀ os : OsState, (HandSHeadRun.endF (HandSHeadRun.stepQ (HandSHeadRun.denQ HandSHeadRun.tabQ) r.prog w) M r.prog w os).map (fun s => HandSHeadRun.looksF r.prog (PySem.W.boot_heap w.params) s.abs) = some true)
    (h2 : ∀ os : OsState, (HandSHeadRun.endF (HandSHeadRun.stepQ (HandSHeadRun.denQ HandSHeadRun.tabQ) r.prog w) M r.prog w os).map (fun s => HandSHeadRun.seenQ q loose (importedModules r.prog.main.body) (fun s => PySem.W.xlAt q [] s && PySem.W.recOk r.toRowW.records s) s.abs) = some (PySem.W.openGood q loose))
    (h3 : ∀ (os : OsState) (s : PySem.W.SharedT), HandSHeadRun.endF (HandSHeadRun.stepQ (HandSHeadRun.denQ HandSHeadRun.tabQ) r.prog w) M r.prog w os = some s → fnE (KB n (HandSHeadRun.getT s)) fn = fn.map He.DefD.val)
    (h4 : ∀ (os : OsState) (s : PySem.W.SharedT), HandSHeadRun.endF (HandSHeadRun.stepQ (HandSHeadRun.denQ HandSHeadRun.tabQ) r.prog w) M r.prog w os = some s → exE (KB n (HandSHeadRun.getT s)) ex = true)
    (h5 : ∀ (os : OsState) (s : PySem.W.SharedT), HandSHeadRun.endF (HandSHeadRun.stepQ (HandSHeadRun.denQ HandSHeadRun.tabQ) r.prog w) M r.prog w os = some s → He.tabsB (HandSHeadRun.getT s) tf (KB n (HandSHeadRun.getT s)) = true) :
    HandSHeadRun.RunEq r q (hookB n fn tf ex) (fun s => obsB n fn tf ex (HandSHeadRun.getT s)) M loose w := fun os => by
  have g1 := h1 os
  have g2 := h2 os
  have g3 := h3 os
  have g4 := h4 os
  have g5 := h5 os
  generalize HandSHeadRun.endF (HandSHeadRun.stepQ (HandSHeadRun.denQ HandSHeadRun.tabQ) r.prog w) M r.prog w os = x at *
  cases x with
  | none => cases g1
  | some s => exact run_all rfl (Option.some.inj g1) (Option.some.inj g2) (obsB_one (tf := tf) (ex := ex) (g3 s rfl)) (obsB_two (fn := fn) (g4 s rfl) (g5 s rfl))
end WB
namespace WB
open PySem PySem.Spec PyProof.Rows L2
def topS (i : Nat) : Stmt := PySem.Challenge.pw_warbleline_k30_wires_and_shapers_refused.main.body.getD i (.Pass ⟨0, 0, 0, 0⟩)
abbrev s__wall : Stmt := topS 0
abbrev s_LineError : Stmt := topS 2
abbrev s_BadBit : Stmt := topS 3
abbrev s_BadFrame : Stmt := topS 4
abbrev s_BadCount : Stmt := topS 5
abbrev s_BadRate : Stmt := topS 6
abbrev s_BadTaps : Stmt := topS 7
abbrev s_BadNoise : Stmt := topS 8
abbrev s_TooLong : Stmt := topS 9
abbrev s_Full : Stmt := topS 10
abbrev s_Missing : Stmt := topS 11
abbrev s_without_last_noughts : Stmt := topS 15
abbrev s_right_shares : Stmt := topS 16
abbrev s_left_behind : Stmt := topS 17
abbrev s_no_tones : Stmt := topS 18
abbrev s_with_latest : Stmt := topS 19
abbrev s_Wire : Stmt := topS 21
abbrev m_Wire___init__ : Stmt := inClass s_Wire 0
abbrev m_Wire___eq__ : Stmt := inClass s_Wire 1
abbrev m_Wire___repr__ : Stmt := inClass s_Wire 2
abbrev m_Wire_shares : Stmt := inClass s_Wire 3
abbrev m_Wire_beat : Stmt := inClass s_Wire 4
abbrev m_Wire_hush : Stmt := inClass s_Wire 5
abbrev m_Wire_twin : Stmt := inClass s_Wire 6
abbrev s_check_rate : Stmt := topS 26
abbrev s_folded : Stmt := topS 27
abbrev s_apart : Stmt := topS 28
abbrev s_points_at : Stmt := topS 29
abbrev s_step : Stmt := topS 30
abbrev s_point : Stmt := topS 31
abbrev s_Shaper : Stmt := topS 33
abbrev m_Shaper___init__ : Stmt := inClass s_Shaper 0
abbrev m_Shaper_say : Stmt := inClass s_Shaper 1
abbrev m_Shaper_past : Stmt := inClass s_Shaper 2
abbrev m_Shaper_twin : Stmt := inClass s_Shaper 3
abbrev s_check_bits : Stmt := topS 36
abbrev s_number_bits : Stmt := topS 37
abbrev s_bits_number : Stmt := topS 38
abbrev s_moved_on : Stmt := topS 42
abbrev s_seal_of : Stmt := topS 43
abbrev s_sealed : Stmt := topS 44
abbrev s_holds : Stmt := topS 45
abbrev s_stuffed : Stmt := topS 51
abbrev s_unstuffed : Stmt := topS 52
abbrev s_framed : Stmt := topS 53
abbrev s_payload_between : Stmt := topS 54
abbrev s_Reader : Stmt := topS 55
abbrev m_Reader___init__ : Stmt := inClass s_Reader 0
abbrev m_Reader_take : Stmt := inClass s_Reader 1
abbrev m_Reader_take_bit : Stmt := inClass s_Reader 2
abbrev m_Reader_pass_mark : Stmt := inClass s_Reader 3
abbrev m_Reader_forget : Stmt := inClass s_Reader 4
abbrev m_Reader_hurt : Stmt := inClass s_Reader 5
abbrev m_Reader_waiting : Stmt := inClass s_Reader 6
abbrev m_Reader_twin : Stmt := inClass s_Reader 7
abbrev s_moved : Stmt := topS 59
abbrev s_class_of : Stmt := topS 60
abbrev s_coded : Stmt := topS 61
abbrev s_nearest_of_class : Stmt := topS 62
abbrev s_onward : Stmt := topS 63
abbrev s_best_of_beat : Stmt := topS 64
abbrev s_tail_costs : Stmt := topS 65
abbrev s_bits_along : Stmt := topS 66
abbrev s_heard_path : Stmt := topS 67
abbrev s_pushed_through : Stmt := topS 74
abbrev s_Scrambler : Stmt := topS 75
abbrev m_Scrambler___init__ : Stmt := inClass s_Scrambler 0
abbrev m_Scrambler_push : Stmt := inClass s_Scrambler 1
abbrev m_Scrambler_memory : Stmt := inClass s_Scrambler 2
abbrev m_Scrambler_twin : Stmt := inClass s_Scrambler 3
abbrev s_Descrambler : Stmt := topS 76
abbrev m_Descrambler___init__ : Stmt := inClass s_Descrambler 0
abbrev m_Descrambler_push : Stmt := inClass s_Descrambler 1
abbrev m_Descrambler_memory : Stmt := inClass s_Descrambler 2
abbrev m_Descrambler_twin : Stmt := inClass s_Descrambler 3
abbrev s_burst_bits : Stmt := topS 79
abbrev s_check_burst : Stmt := topS 80
abbrev s_Mouth : Stmt := topS 81
abbrev m_Mouth___init__ : Stmt := inClass s_Mouth 0
abbrev m_Mouth_tell : Stmt := inClass s_Mouth 1
abbrev m_Mouth_burst : Stmt := inClass s_Mouth 2
abbrev m_Mouth_waiting : Stmt := inClass s_Mouth 3
abbrev m_Mouth_turn_to : Stmt := inClass s_Mouth 4
abbrev m_Mouth_twin : Stmt := inClass s_Mouth 5
abbrev s_Ear : Stmt := topS 82
abbrev m_Ear___init__ : Stmt := inClass s_Ear 0
abbrev m_Ear_hear : Stmt := inClass s_Ear 1
abbrev m_Ear_deaf : Stmt := inClass s_Ear 2
abbrev m_Ear_hurt : Stmt := inClass s_Ear 3
abbrev m_Ear_turn_to : Stmt := inClass s_Ear 4
abbrev m_Ear_twin : Stmt := inClass s_Ear 5
abbrev s__law_bag : Stmt := topS 84
abbrev s__law_pick : Stmt := topS 85
abbrev s__law_of : Stmt := topS 86
abbrev s__law_same : Stmt := topS 87
abbrev s__law_tried : Stmt := topS 88
abbrev s__law_far : Stmt := topS 89
abbrev s__law_shares : Stmt := topS 90
abbrev s__law_trimmed : Stmt := topS 91
abbrev s__law_tone : Stmt := topS 92
abbrev s__law_bad_shares : Stmt := topS 93
abbrev s__law_noughts_behind : Stmt := topS 94
abbrev s_law : Stmt := topS 95
abbrev i_LineError : Stmt := inClass s_LineError 0
abbrev i_BadBit : Stmt := inClass s_BadBit 0
abbrev i_BadFrame : Stmt := inClass s_BadFrame 0
abbrev i_BadCount : Stmt := inClass s_BadCount 0
abbrev i_BadRate : Stmt := inClass s_BadRate 0
abbrev i_BadTaps : Stmt := inClass s_BadTaps 0
abbrev i_BadNoise : Stmt := inClass s_BadNoise 0
abbrev hdD0 : He.DefD := ⟨("check_bits", none), "check_bits", "check_bits", defArgs s_check_bits, defBody s_check_bits, defScope s_check_bits, [], []⟩
abbrev hdD1 : He.DefD := ⟨("bits_number", none), "bits_number", "bits_number", defArgs s_bits_number, defBody s_bits_number, defScope s_bits_number, [], []⟩
abbrev hdD2 : He.DefD := ⟨("number_bits", none), "number_bits", "number_bits", defArgs s_number_bits, defBody s_number_bits, defScope s_number_bits, [], []⟩
abbrev hdD3 : He.DefD := ⟨("moved_on", none), "moved_on", "moved_on", defArgs s_moved_on, defBody s_moved_on, defScope s_moved_on, [], []⟩
abbrev hdD4 : He.DefD := ⟨("seal_of", none), "seal_of", "seal_of", defArgs s_seal_of, defBody s_seal_of, defScope s_seal_of, [], []⟩
abbrev hdD5 : He.DefD := ⟨("holds", none), "holds", "holds", defArgs s_holds, defBody s_holds, defScope s_holds, [], []⟩
abbrev hdD6 : He.DefD := ⟨("unstuffed", none), "unstuffed", "unstuffed", defArgs s_unstuffed, defBody s_unstuffed, defScope s_unstuffed, [], []⟩
abbrev hdD7 : He.DefD := ⟨("payload_between", none), "payload_between", "payload_between", defArgs s_payload_between, defBody s_payload_between, defScope s_payload_between, [], []⟩
abbrev hdD8 : He.DefD := ⟨("Reader", some "__init__"), "__init__", "Reader.__init__", defArgs m_Reader___init__, defBody m_Reader___init__, defScope m_Reader___init__, [], []⟩
abbrev hdD9 : He.DefD := ⟨("Reader", some "pass_mark"), "pass_mark", "Reader.pass_mark", defArgs m_Reader_pass_mark, defBody m_Reader_pass_mark, defScope m_Reader_pass_mark, [], []⟩
abbrev hdD10 : He.DefD := ⟨("Reader", some "take_bit"), "take_bit", "Reader.take_bit", defArgs m_Reader_take_bit, defBody m_Reader_take_bit, defScope m_Reader_take_bit, [], []⟩
abbrev hdD11 : He.DefD := ⟨("Reader", some "take"), "take", "Reader.take", defArgs m_Reader_take, defBody m_Reader_take, defScope m_Reader_take, [], []⟩
abbrev hdD12 : He.DefD := ⟨("Reader", some "hurt"), "hurt", "Reader.hurt", defArgs m_Reader_hurt, defBody m_Reader_hurt, defScope m_Reader_hurt, [], []⟩
abbrev hdD13 : He.DefD := ⟨("check_rate", none), "check_rate", "check_rate", defArgs s_check_rate, defBody s_check_rate, defScope s_check_rate, [], []⟩
abbrev hdD14 : He.DefD := ⟨("folded", none), "folded", "folded", defArgs s_folded, defBody s_folded, defScope s_folded, [], []⟩
abbrev hdD15 : He.DefD := ⟨("apart", none), "apart", "apart", defArgs s_apart, defBody s_apart, defScope s_apart, [], []⟩
abbrev hdD16 : He.DefD := ⟨("points_at", none), "points_at", "points_at", defArgs s_points_at, defBody s_points_at, defScope s_points_at, [], []⟩
abbrev hdD17 : He.DefD := ⟨("step", none), "step", "step", defArgs s_step, defBody s_step, defScope s_step, [], []⟩
abbrev hdD18 : He.DefD := ⟨("point", none), "point", "point", defArgs s_point, defBody s_point, defScope s_point, [], []⟩
abbrev hdD19 : He.DefD := ⟨("moved", none), "moved", "moved", defArgs s_moved, defBody s_moved, defScope s_moved, [], []⟩
abbrev hdD20 : He.DefD := ⟨("class_of", none), "class_of", "class_of", defArgs s_class_of, defBody s_class_of, defScope s_class_of, [], []⟩
abbrev hdD21 : He.DefD := ⟨("coded", none), "coded", "coded", defArgs s_coded, defBody s_coded, defScope s_coded, [], []⟩
abbrev hdD22 : He.DefD := ⟨("nearest_of_class", none), "nearest_of_class", "nearest_of_class", defArgs s_nearest_of_class, defBody s_nearest_of_class, defScope s_nearest_of_class, [], []⟩
abbrev hdD23 : He.DefD := ⟨("onward", none), "onward", "onward", defArgs s_onward, defBody s_onward, defScope s_onward, [], []⟩
abbrev hdD24 : He.DefD := ⟨("best_of_beat", none), "best_of_beat", "best_of_beat", defArgs s_best_of_beat, defBody s_best_of_beat, defScope s_best_of_beat, [], []⟩
abbrev hdD25 : He.DefD := ⟨("tail_costs", none), "tail_costs", "tail_costs", defArgs s_tail_costs, defBody s_tail_costs, defScope s_tail_costs, [], []⟩
abbrev hdD26 : He.DefD := ⟨("bits_along", none), "bits_along", "bits_along", defArgs s_bits_along, defBody s_bits_along, defScope s_bits_along, [], []⟩
abbrev hdD27 : He.DefD := ⟨("heard_path", none), "heard_path", "heard_path", defArgs s_heard_path, defBody s_heard_path, defScope s_heard_path, [], []⟩
abbrev hdD28 : He.DefD := ⟨("pushed_through", none), "pushed_through", "pushed_through", defArgs s_pushed_through, defBody s_pushed_through, defScope s_pushed_through, [], []⟩
abbrev hdD29 : He.DefD := ⟨("Scrambler", some "__init__"), "__init__", "Scrambler.__init__", defArgs m_Scrambler___init__, defBody m_Scrambler___init__, defScope m_Scrambler___init__, [], []⟩
abbrev hdD30 : He.DefD := ⟨("Scrambler", some "push"), "push", "Scrambler.push", defArgs m_Scrambler_push, defBody m_Scrambler_push, defScope m_Scrambler_push, [], []⟩
abbrev hdD31 : He.DefD := ⟨("Scrambler", some "memory"), "memory", "Scrambler.memory", defArgs m_Scrambler_memory, defBody m_Scrambler_memory, defScope m_Scrambler_memory, [], []⟩
abbrev hdD32 : He.DefD := ⟨("Descrambler", some "__init__"), "__init__", "Descrambler.__init__", defArgs m_Descrambler___init__, defBody m_Descrambler___init__, defScope m_Descrambler___init__, [], []⟩
abbrev hdD33 : He.DefD := ⟨("Descrambler", some "push"), "push", "Descrambler.push", defArgs m_Descrambler_push, defBody m_Descrambler_push, defScope m_Descrambler_push, [], []⟩
abbrev hdD34 : He.DefD := ⟨("Descrambler", some "memory"), "memory", "Descrambler.memory", defArgs m_Descrambler_memory, defBody m_Descrambler_memory, defScope m_Descrambler_memory, [], []⟩
abbrev hdD35 : He.DefD := ⟨("without_last_noughts", none), "without_last_noughts", "without_last_noughts", defArgs s_without_last_noughts, defBody s_without_last_noughts, defScope s_without_last_noughts, [], []⟩
abbrev hdD36 : He.DefD := ⟨("right_shares", none), "right_shares", "right_shares", defArgs s_right_shares, defBody s_right_shares, defScope s_right_shares, [], []⟩
abbrev hdD37 : He.DefD := ⟨("left_behind", none), "left_behind", "left_behind", defArgs s_left_behind, defBody s_left_behind, defScope s_left_behind, [], []⟩
abbrev hdD38 : He.DefD := ⟨("no_tones", none), "no_tones", "no_tones", defArgs s_no_tones, defBody s_no_tones, defScope s_no_tones, [], []⟩
abbrev hdD39 : He.DefD := ⟨("with_latest", none), "with_latest", "with_latest", defArgs s_with_latest, defBody s_with_latest, defScope s_with_latest, [], []⟩
abbrev hdD40 : He.DefD := ⟨("Shaper", some "__init__"), "__init__", "Shaper.__init__", defArgs m_Shaper___init__, defBody m_Shaper___init__, defScope m_Shaper___init__, [], []⟩
abbrev hdD41 : He.DefD := ⟨("Shaper", some "say"), "say", "Shaper.say", defArgs m_Shaper_say, defBody m_Shaper_say, defScope m_Shaper_say, [], []⟩
abbrev hdD42 : He.DefD := ⟨("Shaper", some "past"), "past", "Shaper.past", defArgs m_Shaper_past, defBody m_Shaper_past, defScope m_Shaper_past, [], []⟩
abbrev hdD43 : He.DefD := ⟨("burst_bits", none), "burst_bits", "burst_bits", defArgs s_burst_bits, defBody s_burst_bits, defScope s_burst_bits, [], []⟩
abbrev hdD44 : He.DefD := ⟨("Mouth", some "__init__"), "__init__", "Mouth.__init__", defArgs m_Mouth___init__, defBody m_Mouth___init__, defScope m_Mouth___init__, [], []⟩
abbrev hdD45 : He.DefD := ⟨("Mouth", some "burst"), "burst", "Mouth.burst", defArgs m_Mouth_burst, defBody m_Mouth_burst, defScope m_Mouth_burst, [], []⟩
abbrev hdD46 : He.DefD := ⟨("check_burst", none), "check_burst", "check_burst", defArgs s_check_burst, defBody s_check_burst, defScope s_check_burst, [], []⟩
abbrev hdD47 : He.DefD := ⟨("Ear", some "__init__"), "__init__", "Ear.__init__", defArgs m_Ear___init__, defBody m_Ear___init__, defScope m_Ear___init__, [], []⟩
abbrev hdD48 : He.DefD := ⟨("Ear", some "hear"), "hear", "Ear.hear", defArgs m_Ear_hear, defBody m_Ear_hear, defScope m_Ear_hear, [], []⟩
abbrev hdD49 : He.DefD := ⟨("Ear", some "hurt"), "hurt", "Ear.hurt", defArgs m_Ear_hurt, defBody m_Ear_hurt, defScope m_Ear_hurt, [], []⟩
abbrev hdD50 : He.DefD := ⟨("Wire", some "__init__"), "__init__", "Wire.__init__", defArgs m_Wire___init__, defBody m_Wire___init__, defScope m_Wire___init__, [], []⟩
abbrev hdD51 : He.DefD := ⟨("Wire", some "shares"), "shares", "Wire.shares", defArgs m_Wire_shares, defBody m_Wire_shares, defScope m_Wire_shares, [], []⟩
abbrev hdD52 : He.DefD := ⟨("Wire", some "__eq__"), "__eq__", "Wire.__eq__", defArgs m_Wire___eq__, defBody m_Wire___eq__, defScope m_Wire___eq__, [], []⟩
abbrev hdD53 : He.DefD := ⟨("_law_bag", none), "_law_bag", "_law_bag", defArgs s__law_bag, defBody s__law_bag, defScope s__law_bag, [], []⟩
abbrev hdD54 : He.DefD := ⟨("_law_pick", none), "_law_pick", "_law_pick", defArgs s__law_pick, defBody s__law_pick, defScope s__law_pick, [], []⟩
abbrev hdD55 : He.DefD := ⟨("_law_of", none), "_law_of", "_law_of", defArgs s__law_of, defBody s__law_of, defScope s__law_of, [], []⟩
abbrev hdD56 : He.DefD := ⟨("_law_same", none), "_law_same", "_law_same", defArgs s__law_same, defBody s__law_same, defScope s__law_same, [], []⟩
abbrev hdD57 : He.DefD := ⟨("_law_tried", none), "_law_tried", "_law_tried", defArgs s__law_tried, defBody s__law_tried, defScope s__law_tried, [], []⟩
abbrev hdD58 : He.DefD := ⟨("_law_far", none), "_law_far", "_law_far", defArgs s__law_far, defBody s__law_far, defScope s__law_far, [], []⟩
abbrev hdD59 : He.DefD := ⟨("_law_shares", none), "_law_shares", "_law_shares", defArgs s__law_shares, defBody s__law_shares, defScope s__law_shares, [], []⟩
abbrev hdD60 : He.DefD := ⟨("_law_trimmed", none), "_law_trimmed", "_law_trimmed", defArgs s__law_trimmed, defBody s__law_trimmed, defScope s__law_trimmed, [], []⟩
abbrev hdD61 : He.DefD := ⟨("_law_tone", none), "_law_tone", "_law_tone", defArgs s__law_tone, defBody s__law_tone, defScope s__law_tone, [], []⟩
abbrev hdD62 : He.DefD := ⟨("_law_bad_shares", none), "_law_bad_shares", "_law_bad_shares", defArgs s__law_bad_shares, defBody s__law_bad_shares, defScope s__law_bad_shares, [], []⟩
abbrev hdD63 : He.DefD := ⟨("_law_noughts_behind", none), "_law_noughts_behind", "_law_noughts_behind", defArgs s__law_noughts_behind, defBody s__law_noughts_behind, defScope s__law_noughts_behind, [], []⟩
abbrev hdD64 : He.DefD := ⟨("law", none), "law", "law", defArgs s_law, defBody s_law, defScope s_law, [], []⟩
abbrev hdD65 : He.DefD := ⟨("LineError", some "__init__"), "__init__", "LineError.__init__", defArgs i_LineError, defBody i_LineError, defScope i_LineError, [], []⟩
abbrev hdD66 : He.DefD := ⟨("BadBit", some "__init__"), "__init__", "BadBit.__init__", defArgs i_BadBit, defBody i_BadBit, defScope i_BadBit, [], []⟩
abbrev hdD67 : He.DefD := ⟨("BadFrame", some "__init__"), "__init__", "BadFrame.__init__", defArgs i_BadFrame, defBody i_BadFrame, defScope i_BadFrame, [], []⟩
abbrev hdD68 : He.DefD := ⟨("BadCount", some "__init__"), "__init__", "BadCount.__init__", defArgs i_BadCount, defBody i_BadCount, defScope i_BadCount, [], []⟩
abbrev hdD69 : He.DefD := ⟨("BadRate", some "__init__"), "__init__", "BadRate.__init__", defArgs i_BadRate, defBody i_BadRate, defScope i_BadRate, [], []⟩
abbrev hdD70 : He.DefD := ⟨("BadTaps", some "__init__"), "__init__", "BadTaps.__init__", defArgs i_BadTaps, defBody i_BadTaps, defScope i_BadTaps, [], []⟩
abbrev hdD71 : He.DefD := ⟨("BadNoise", some "__init__"), "__init__", "BadNoise.__init__", defArgs i_BadNoise, defBody i_BadNoise, defScope i_BadNoise, [], []⟩
def hdF0 : List He.DefD := [hdD0, hdD1, hdD2, hdD3, hdD4, hdD5, hdD6, hdD7, hdD8, hdD9, hdD10, hdD11, hdD12, hdD13, hdD14, hdD15]
def hdF1 : List He.DefD := [hdD16, hdD17, hdD18, hdD19, hdD20, hdD21, hdD22, hdD23, hdD24, hdD25, hdD26, hdD27, hdD28, hdD29, hdD30, hdD31]
def hdF2 : List He.DefD := [hdD32, hdD33, hdD34, hdD35, hdD36, hdD37, hdD38, hdD39, hdD40, hdD41, hdD42, hdD43, hdD44, hdD45, hdD46, hdD47]
def hdF3 : List He.DefD := [hdD48, hdD49, hdD50, hdD51, hdD52, hdD53, hdD54, hdD55, hdD56, hdD57, hdD58, hdD59, hdD60, hdD61, hdD62, hdD63]
def hdF4 : List He.DefD := [hdD64, hdD65, hdD66, hdD67, hdD68, hdD69, hdD70, hdD71]
def hdF : List He.DefD := hdF0 ++ hdF1 ++ hdF2 ++ hdF3 ++ hdF4
def hdB0 (K : PySem.W.Frag) : List Bool := [eqOO (PySem.W.nsIn K mainGlobals "Reader") (some (some (.ref (He.ga K "Reader")))),
  PySem.W.plainGet K (He.ga K "Reader") Str.empty,
  PySem.W.hasDictIn K (He.ga K "Reader"),
  PySem.W.plainOver K (He.ga K "Reader"),
  eqOO (PySem.W.findIn K (.ref (He.ga K "Reader")) "__setattr__") (some (some (.builtin "object.__setattr__"))),
  PySem.W.makesIn K (He.ga K "Reader"),
  PySem.W.keepIn K (.ref (He.ga K "Reader")),
  eqOO (PySem.W.findIn K (.ref (He.ga K "Reader")) "last") (some none),
  eqOO (PySem.W.findIn K (.ref (He.ga K "Reader")) "behind") (some none),
  eqOO (PySem.W.findIn K (.ref (He.ga K "Reader")) "spoilt") (some none),
  eqOO (PySem.W.nsIn K mainGlobals "Scrambler") (some (some (.ref (He.ga K "Scrambler")))),
  PySem.W.plainGet K (He.ga K "Scrambler") Str.empty,
  PySem.W.hasDictIn K (He.ga K "Scrambler"),
  PySem.W.plainOver K (He.ga K "Scrambler"),
  eqOO (PySem.W.findIn K (.ref (He.ga K "Scrambler")) "__setattr__") (some (some (.builtin "object.__setattr__"))),
  PySem.W.makesIn K (He.ga K "Scrambler")]
def hdB1 (K : PySem.W.Frag) : List Bool := [PySem.W.keepIn K (.ref (He.ga K "Scrambler")),
  eqOO (PySem.W.findIn K (.ref (He.ga K "Scrambler")) "cells") (some none),
  eqOO (PySem.W.nsIn K mainGlobals "Descrambler") (some (some (.ref (He.ga K "Descrambler")))),
  PySem.W.plainGet K (He.ga K "Descrambler") Str.empty,
  PySem.W.hasDictIn K (He.ga K "Descrambler"),
  PySem.W.plainOver K (He.ga K "Descrambler"),
  eqOO (PySem.W.findIn K (.ref (He.ga K "Descrambler")) "__setattr__") (some (some (.builtin "object.__setattr__"))),
  PySem.W.makesIn K (He.ga K "Descrambler"),
  PySem.W.keepIn K (.ref (He.ga K "Descrambler")),
  eqOO (PySem.W.findIn K (.ref (He.ga K "Descrambler")) "cells") (some none),
  eqOO (PySem.W.nsIn K mainGlobals "Shaper") (some (some (.ref (He.ga K "Shaper")))),
  PySem.W.plainGet K (He.ga K "Shaper") Str.empty,
  PySem.W.hasDictIn K (He.ga K "Shaper"),
  PySem.W.plainOver K (He.ga K "Shaper"),
  eqOO (PySem.W.findIn K (.ref (He.ga K "Shaper")) "__setattr__") (some (some (.builtin "object.__setattr__"))),
  PySem.W.makesIn K (He.ga K "Shaper")]
def hdB2 (K : PySem.W.Frag) : List Bool := [PySem.W.keepIn K (.ref (He.ga K "Shaper")),
  eqOO (PySem.W.findIn K (.ref (He.ga K "Shaper")) "taps") (some none),
  eqOO (PySem.W.findIn K (.ref (He.ga K "Shaper")) "tones") (some none),
  eqOO (PySem.W.nsIn K mainGlobals "Mouth") (some (some (.ref (He.ga K "Mouth")))),
  PySem.W.plainGet K (He.ga K "Mouth") Str.empty,
  PySem.W.hasDictIn K (He.ga K "Mouth"),
  PySem.W.plainOver K (He.ga K "Mouth"),
  eqOO (PySem.W.findIn K (.ref (He.ga K "Mouth")) "__setattr__") (some (some (.builtin "object.__setattr__"))),
  PySem.W.makesIn K (He.ga K "Mouth"),
  PySem.W.keepIn K (.ref (He.ga K "Mouth")),
  eqOO (PySem.W.findIn K (.ref (He.ga K "Mouth")) "speed") (some none),
  eqOO (PySem.W.findIn K (.ref (He.ga K "Mouth")) "shaper") (some none),
  eqOO (PySem.W.findIn K (.ref (He.ga K "Mouth")) "scrambler") (some none),
  eqOO (PySem.W.findIn K (.ref (He.ga K "Mouth")) "queue") (some none),
  eqOO (PySem.W.nsIn K mainGlobals "Ear") (some (some (.ref (He.ga K "Ear")))),
  PySem.W.plainGet K (He.ga K "Ear") Str.empty]
def hdB3 (K : PySem.W.Frag) : List Bool := [PySem.W.hasDictIn K (He.ga K "Ear"),
  PySem.W.plainOver K (He.ga K "Ear"),
  eqOO (PySem.W.findIn K (.ref (He.ga K "Ear")) "__setattr__") (some (some (.builtin "object.__setattr__"))),
  PySem.W.makesIn K (He.ga K "Ear"),
  PySem.W.keepIn K (.ref (He.ga K "Ear")),
  eqOO (PySem.W.findIn K (.ref (He.ga K "Ear")) "speed") (some none),
  eqOO (PySem.W.findIn K (.ref (He.ga K "Ear")) "taps") (some none),
  eqOO (PySem.W.findIn K (.ref (He.ga K "Ear")) "descrambler") (some none),
  eqOO (PySem.W.findIn K (.ref (He.ga K "Ear")) "reader") (some none),
  eqOO (PySem.W.findIn K (.ref (He.ga K "Ear")) "tones") (some none),
  eqOO (PySem.W.findIn K (.ref (He.ga K "Ear")) "unsure") (some none),
  eqOO (PySem.W.nsIn K mainGlobals "Wire") (some (some (.ref (He.ga K "Wire")))),
  PySem.W.plainGet K (He.ga K "Wire") Str.empty,
  PySem.W.hasDictIn K (He.ga K "Wire"),
  PySem.W.plainOver K (He.ga K "Wire"),
  eqOO (PySem.W.findIn K (.ref (He.ga K "Wire")) "__setattr__") (some (some (.builtin "object.__setattr__")))]
def hdB4 (K : PySem.W.Frag) : List Bool := [PySem.W.makesIn K (He.ga K "Wire"),
  PySem.W.keepIn K (.ref (He.ga K "Wire")),
  eqOO (PySem.W.findIn K (.ref (He.ga K "Wire")) "four") (some none),
  eqOO (PySem.W.findIn K (.ref (He.ga K "Wire")) "one_tones") (some none),
  eqOO (PySem.W.findIn K (.ref (He.ga K "Wire")) "other_tones") (some none),
  eqOb (PySem.W.mroIn K (He.ga K "Wire") (.type "object")) (some true),
  eqOO (PySem.W.findIn K (.ref (He.ga K "Wire")) "__ne__") (some (some (.builtin "object.__ne__"))),
  eqOO (PySem.W.findIn K (.ref (He.ga K "Wire")) "__class__") (some (some (.builtin "object.__class__"))),
  eqOO (PySem.W.specialIn K (.builtin "object.__class__") "__get__") (some (some (.builtin "getset_descriptor.__get__"))),
  eqOb (PySem.W.takesIn K (.builtin "object.__class__")) (some true),
  eqOb (PySem.W.kitOne K (.ref (He.ga K "Wire")) (.ref (He.ga K "Wire"))) (some true),
  eqOb (PySem.W.subIn K (.type "int") (.ref (He.ga K "Wire"))) (some false),
  eqOb (PySem.W.subIn K (.type "str") (.ref (He.ga K "Wire"))) (some false),
  eqOb (PySem.W.kitOne K (.type "int") (.ref (He.ga K "Wire"))) (some false),
  eqOb (PySem.W.kitOne K (.type "str") (.ref (He.ga K "Wire"))) (some false),
  eqOO (PySem.W.nsIn K mainGlobals "check_bits") (some (some (.ref (He.fAd K ("check_bits", none)))))]
def hdB5 (K : PySem.W.Frag) : List Bool := [eqV (dOf K (He.fAd K ("check_bits", none))) .none,
  PySem.W.codeIn K (cOf K (He.fAd K ("check_bits", none))) "check_bits",
  PySem.W.keepIn K (.ref (He.fAd K ("check_bits", none))),
  eqOO (PySem.W.nsIn K mainGlobals "bits_number") (some (some (.ref (He.fAd K ("bits_number", none))))),
  eqV (dOf K (He.fAd K ("bits_number", none))) .none,
  PySem.W.codeIn K (cOf K (He.fAd K ("bits_number", none))) "bits_number",
  PySem.W.keepIn K (.ref (He.fAd K ("bits_number", none))),
  eqOO (PySem.W.nsIn K mainGlobals "number_bits") (some (some (.ref (He.fAd K ("number_bits", none))))),
  eqV (dOf K (He.fAd K ("number_bits", none))) .none,
  PySem.W.codeIn K (cOf K (He.fAd K ("number_bits", none))) "number_bits",
  PySem.W.keepIn K (.ref (He.fAd K ("number_bits", none))),
  eqOO (PySem.W.nsIn K mainGlobals "moved_on") (some (some (.ref (He.fAd K ("moved_on", none))))),
  eqV (dOf K (He.fAd K ("moved_on", none))) .none,
  PySem.W.codeIn K (cOf K (He.fAd K ("moved_on", none))) "moved_on",
  PySem.W.keepIn K (.ref (He.fAd K ("moved_on", none))),
  eqOO (PySem.W.nsIn K mainGlobals "seal_of") (some (some (.ref (He.fAd K ("seal_of", none)))))]
def hdB6 (K : PySem.W.Frag) : List Bool := [eqV (dOf K (He.fAd K ("seal_of", none))) .none,
  PySem.W.codeIn K (cOf K (He.fAd K ("seal_of", none))) "seal_of",
  PySem.W.keepIn K (.ref (He.fAd K ("seal_of", none))),
  eqOO (PySem.W.nsIn K mainGlobals "holds") (some (some (.ref (He.fAd K ("holds", none))))),
  eqV (dOf K (He.fAd K ("holds", none))) .none,
  PySem.W.codeIn K (cOf K (He.fAd K ("holds", none))) "holds",
  PySem.W.keepIn K (.ref (He.fAd K ("holds", none))),
  eqOO (PySem.W.nsIn K mainGlobals "unstuffed") (some (some (.ref (He.fAd K ("unstuffed", none))))),
  eqV (dOf K (He.fAd K ("unstuffed", none))) .none,
  PySem.W.codeIn K (cOf K (He.fAd K ("unstuffed", none))) "unstuffed",
  PySem.W.keepIn K (.ref (He.fAd K ("unstuffed", none))),
  eqOO (PySem.W.nsIn K mainGlobals "payload_between") (some (some (.ref (He.fAd K ("payload_between", none))))),
  eqV (dOf K (He.fAd K ("payload_between", none))) .none,
  PySem.W.codeIn K (cOf K (He.fAd K ("payload_between", none))) "payload_between",
  PySem.W.keepIn K (.ref (He.fAd K ("payload_between", none))),
  eqOO (PySem.W.findIn K (.ref (He.ga K "Reader")) "__init__") (some (some (.ref (He.fAd K ("Reader", some "__init__")))))]
def hdB7 (K : PySem.W.Frag) : List Bool := [PySem.W.isFn K (.ref (He.fAd K ("Reader", some "__init__"))),
  eqV (dOf K (He.fAd K ("Reader", some "__init__"))) .none,
  PySem.W.codeIn K (cOf K (He.fAd K ("Reader", some "__init__"))) "Reader.__init__",
  PySem.W.keepIn K (.ref (He.fAd K ("Reader", some "__init__"))),
  eqOO (PySem.W.findIn K (.ref (He.ga K "Reader")) "pass_mark") (some (some (.ref (He.fAd K ("Reader", some "pass_mark"))))),
  PySem.W.isFn K (.ref (He.fAd K ("Reader", some "pass_mark"))),
  eqV (dOf K (He.fAd K ("Reader", some "pass_mark"))) .none,
  PySem.W.codeIn K (cOf K (He.fAd K ("Reader", some "pass_mark"))) "Reader.pass_mark",
  PySem.W.keepIn K (.ref (He.fAd K ("Reader", some "pass_mark"))),
  eqOO (PySem.W.findIn K (.ref (He.ga K "Reader")) "take_bit") (some (some (.ref (He.fAd K ("Reader", some "take_bit"))))),
  PySem.W.isFn K (.ref (He.fAd K ("Reader", some "take_bit"))),
  eqV (dOf K (He.fAd K ("Reader", some "take_bit"))) .none,
  PySem.W.codeIn K (cOf K (He.fAd K ("Reader", some "take_bit"))) "Reader.take_bit",
  PySem.W.keepIn K (.ref (He.fAd K ("Reader", some "take_bit"))),
  eqOO (PySem.W.findIn K (.ref (He.ga K "Reader")) "take") (some (some (.ref (He.fAd K ("Reader", some "take"))))),
  PySem.W.isFn K (.ref (He.fAd K ("Reader", some "take")))]
def hdB8 (K : PySem.W.Frag) : List Bool := [eqV (dOf K (He.fAd K ("Reader", some "take"))) .none,
  PySem.W.codeIn K (cOf K (He.fAd K ("Reader", some "take"))) "Reader.take",
  PySem.W.keepIn K (.ref (He.fAd K ("Reader", some "take"))),
  eqOO (PySem.W.findIn K (.ref (He.ga K "Reader")) "hurt") (some (some (.ref (He.fAd K ("Reader", some "hurt"))))),
  PySem.W.isFn K (.ref (He.fAd K ("Reader", some "hurt"))),
  eqV (dOf K (He.fAd K ("Reader", some "hurt"))) .none,
  PySem.W.codeIn K (cOf K (He.fAd K ("Reader", some "hurt"))) "Reader.hurt",
  PySem.W.keepIn K (.ref (He.fAd K ("Reader", some "hurt"))),
  eqOO (PySem.W.nsIn K mainGlobals "check_rate") (some (some (.ref (He.fAd K ("check_rate", none))))),
  eqV (dOf K (He.fAd K ("check_rate", none))) .none,
  PySem.W.codeIn K (cOf K (He.fAd K ("check_rate", none))) "check_rate",
  PySem.W.keepIn K (.ref (He.fAd K ("check_rate", none))),
  eqOO (PySem.W.nsIn K mainGlobals "folded") (some (some (.ref (He.fAd K ("folded", none))))),
  eqV (dOf K (He.fAd K ("folded", none))) .none,
  PySem.W.codeIn K (cOf K (He.fAd K ("folded", none))) "folded",
  PySem.W.keepIn K (.ref (He.fAd K ("folded", none)))]
def hdB9 (K : PySem.W.Frag) : List Bool := [eqOO (PySem.W.nsIn K mainGlobals "apart") (some (some (.ref (He.fAd K ("apart", none))))),
  eqV (dOf K (He.fAd K ("apart", none))) .none,
  PySem.W.codeIn K (cOf K (He.fAd K ("apart", none))) "apart",
  PySem.W.keepIn K (.ref (He.fAd K ("apart", none))),
  eqOO (PySem.W.nsIn K mainGlobals "points_at") (some (some (.ref (He.fAd K ("points_at", none))))),
  eqV (dOf K (He.fAd K ("points_at", none))) .none,
  PySem.W.codeIn K (cOf K (He.fAd K ("points_at", none))) "points_at",
  PySem.W.keepIn K (.ref (He.fAd K ("points_at", none))),
  eqOO (PySem.W.nsIn K mainGlobals "step") (some (some (.ref (He.fAd K ("step", none))))),
  eqV (dOf K (He.fAd K ("step", none))) .none,
  PySem.W.codeIn K (cOf K (He.fAd K ("step", none))) "step",
  PySem.W.keepIn K (.ref (He.fAd K ("step", none))),
  eqOO (PySem.W.nsIn K mainGlobals "point") (some (some (.ref (He.fAd K ("point", none))))),
  eqV (dOf K (He.fAd K ("point", none))) .none,
  eqV (kOf K (He.fAd K ("point", none))) (.ref (adV (kOf K (He.fAd K ("point", none))))),
  eqOO (PySem.W.nsIn K (adV (kOf K (He.fAd K ("point", none)))) "rate") (some (some (.int 1 (tokV (vO (PySem.W.nsIn K (adV (kOf K (He.fAd K ("point", none)))) "rate"))))))]
def hdB10 (K : PySem.W.Frag) : List Bool := [PySem.W.codeIn K (cOf K (He.fAd K ("point", none))) "point",
  PySem.W.keepIn K (.ref (He.fAd K ("point", none))),
  eqOO (PySem.W.nsIn K mainGlobals "moved") (some (some (.ref (He.fAd K ("moved", none))))),
  eqV (dOf K (He.fAd K ("moved", none))) .none,
  PySem.W.codeIn K (cOf K (He.fAd K ("moved", none))) "moved",
  PySem.W.keepIn K (.ref (He.fAd K ("moved", none))),
  eqOO (PySem.W.nsIn K mainGlobals "class_of") (some (some (.ref (He.fAd K ("class_of", none))))),
  eqV (dOf K (He.fAd K ("class_of", none))) .none,
  PySem.W.codeIn K (cOf K (He.fAd K ("class_of", none))) "class_of",
  PySem.W.keepIn K (.ref (He.fAd K ("class_of", none))),
  eqOO (PySem.W.nsIn K mainGlobals "coded") (some (some (.ref (He.fAd K ("coded", none))))),
  eqV (dOf K (He.fAd K ("coded", none))) .none,
  eqV (kOf K (He.fAd K ("coded", none))) (.ref (adV (kOf K (He.fAd K ("coded", none))))),
  eqOO (PySem.W.nsIn K (adV (kOf K (He.fAd K ("coded", none)))) "rate") (some (some (.int 1 (tokV (vO (PySem.W.nsIn K (adV (kOf K (He.fAd K ("coded", none)))) "rate")))))),
  PySem.W.codeIn K (cOf K (He.fAd K ("coded", none))) "coded",
  PySem.W.keepIn K (.ref (He.fAd K ("coded", none)))]
def hdB11 (K : PySem.W.Frag) : List Bool := [eqOO (PySem.W.nsIn K mainGlobals "nearest_of_class") (some (some (.ref (He.fAd K ("nearest_of_class", none))))),
  eqV (dOf K (He.fAd K ("nearest_of_class", none))) .none,
  PySem.W.codeIn K (cOf K (He.fAd K ("nearest_of_class", none))) "nearest_of_class",
  PySem.W.keepIn K (.ref (He.fAd K ("nearest_of_class", none))),
  eqOO (PySem.W.nsIn K mainGlobals "onward") (some (some (.ref (He.fAd K ("onward", none))))),
  eqV (dOf K (He.fAd K ("onward", none))) .none,
  PySem.W.codeIn K (cOf K (He.fAd K ("onward", none))) "onward",
  PySem.W.keepIn K (.ref (He.fAd K ("onward", none))),
  eqOO (PySem.W.nsIn K mainGlobals "best_of_beat") (some (some (.ref (He.fAd K ("best_of_beat", none))))),
  eqV (dOf K (He.fAd K ("best_of_beat", none))) .none,
  PySem.W.codeIn K (cOf K (He.fAd K ("best_of_beat", none))) "best_of_beat",
  PySem.W.keepIn K (.ref (He.fAd K ("best_of_beat", none))),
  eqOO (PySem.W.nsIn K mainGlobals "tail_costs") (some (some (.ref (He.fAd K ("tail_costs", none))))),
  eqV (dOf K (He.fAd K ("tail_costs", none))) .none,
  PySem.W.codeIn K (cOf K (He.fAd K ("tail_costs", none))) "tail_costs",
  PySem.W.keepIn K (.ref (He.fAd K ("tail_costs", none)))]
def hdB12 (K : PySem.W.Frag) : List Bool := [eqOO (PySem.W.nsIn K mainGlobals "bits_along") (some (some (.ref (He.fAd K ("bits_along", none))))),
  eqV (dOf K (He.fAd K ("bits_along", none))) .none,
  PySem.W.codeIn K (cOf K (He.fAd K ("bits_along", none))) "bits_along",
  PySem.W.keepIn K (.ref (He.fAd K ("bits_along", none))),
  eqOO (PySem.W.nsIn K mainGlobals "heard_path") (some (some (.ref (He.fAd K ("heard_path", none))))),
  eqV (dOf K (He.fAd K ("heard_path", none))) .none,
  eqV (kOf K (He.fAd K ("heard_path", none))) (.ref (adV (kOf K (He.fAd K ("heard_path", none))))),
  eqOO (PySem.W.nsIn K (adV (kOf K (He.fAd K ("heard_path", none)))) "rate") (some (some (.int 1 (tokV (vO (PySem.W.nsIn K (adV (kOf K (He.fAd K ("heard_path", none)))) "rate")))))),
  PySem.W.codeIn K (cOf K (He.fAd K ("heard_path", none))) "heard_path",
  PySem.W.keepIn K (.ref (He.fAd K ("heard_path", none))),
  eqOO (PySem.W.nsIn K mainGlobals "pushed_through") (some (some (.ref (He.fAd K ("pushed_through", none))))),
  eqV (dOf K (He.fAd K ("pushed_through", none))) .none,
  PySem.W.codeIn K (cOf K (He.fAd K ("pushed_through", none))) "pushed_through",
  PySem.W.keepIn K (.ref (He.fAd K ("pushed_through", none))),
  eqOO (PySem.W.findIn K (.ref (He.ga K "Scrambler")) "__init__") (some (some (.ref (He.fAd K ("Scrambler", some "__init__"))))),
  PySem.W.isFn K (.ref (He.fAd K ("Scrambler", some "__init__")))]
def hdB13 (K : PySem.W.Frag) : List Bool := [eqV (dOf K (He.fAd K ("Scrambler", some "__init__"))) .none,
  eqV (kOf K (He.fAd K ("Scrambler", some "__init__"))) (.ref (adV (kOf K (He.fAd K ("Scrambler", some "__init__"))))),
  eqOO (PySem.W.nsIn K (adV (kOf K (He.fAd K ("Scrambler", some "__init__")))) "seed") (some (some (.int 0 (tokV (vO (PySem.W.nsIn K (adV (kOf K (He.fAd K ("Scrambler", some "__init__")))) "seed")))))),
  PySem.W.codeIn K (cOf K (He.fAd K ("Scrambler", some "__init__"))) "Scrambler.__init__",
  PySem.W.keepIn K (.ref (He.fAd K ("Scrambler", some "__init__"))),
  eqOO (PySem.W.findIn K (.ref (He.ga K "Scrambler")) "push") (some (some (.ref (He.fAd K ("Scrambler", some "push"))))),
  PySem.W.isFn K (.ref (He.fAd K ("Scrambler", some "push"))),
  eqV (dOf K (He.fAd K ("Scrambler", some "push"))) .none,
  PySem.W.codeIn K (cOf K (He.fAd K ("Scrambler", some "push"))) "Scrambler.push",
  PySem.W.keepIn K (.ref (He.fAd K ("Scrambler", some "push"))),
  eqOO (PySem.W.findIn K (.ref (He.ga K "Scrambler")) "memory") (some (some (.ref (He.fAd K ("Scrambler", some "memory"))))),
  PySem.W.isFn K (.ref (He.fAd K ("Scrambler", some "memory"))),
  eqV (dOf K (He.fAd K ("Scrambler", some "memory"))) .none,
  PySem.W.codeIn K (cOf K (He.fAd K ("Scrambler", some "memory"))) "Scrambler.memory",
  PySem.W.keepIn K (.ref (He.fAd K ("Scrambler", some "memory"))),
  eqOO (PySem.W.findIn K (.ref (He.ga K "Descrambler")) "__init__") (some (some (.ref (He.fAd K ("Descrambler", some "__init__")))))]
def hdB14 (K : PySem.W.Frag) : List Bool := [PySem.W.isFn K (.ref (He.fAd K ("Descrambler", some "__init__"))),
  eqV (dOf K (He.fAd K ("Descrambler", some "__init__"))) .none,
  eqV (kOf K (He.fAd K ("Descrambler", some "__init__"))) (.ref (adV (kOf K (He.fAd K ("Descrambler", some "__init__"))))),
  eqOO (PySem.W.nsIn K (adV (kOf K (He.fAd K ("Descrambler", some "__init__")))) "seed") (some (some (.int 0 (tokV (vO (PySem.W.nsIn K (adV (kOf K (He.fAd K ("Descrambler", some "__init__")))) "seed")))))),
  PySem.W.codeIn K (cOf K (He.fAd K ("Descrambler", some "__init__"))) "Descrambler.__init__",
  PySem.W.keepIn K (.ref (He.fAd K ("Descrambler", some "__init__"))),
  eqOO (PySem.W.findIn K (.ref (He.ga K "Descrambler")) "push") (some (some (.ref (He.fAd K ("Descrambler", some "push"))))),
  PySem.W.isFn K (.ref (He.fAd K ("Descrambler", some "push"))),
  eqV (dOf K (He.fAd K ("Descrambler", some "push"))) .none,
  PySem.W.codeIn K (cOf K (He.fAd K ("Descrambler", some "push"))) "Descrambler.push",
  PySem.W.keepIn K (.ref (He.fAd K ("Descrambler", some "push"))),
  eqOO (PySem.W.findIn K (.ref (He.ga K "Descrambler")) "memory") (some (some (.ref (He.fAd K ("Descrambler", some "memory"))))),
  PySem.W.isFn K (.ref (He.fAd K ("Descrambler", some "memory"))),
  eqV (dOf K (He.fAd K ("Descrambler", some "memory"))) .none,
  PySem.W.codeIn K (cOf K (He.fAd K ("Descrambler", some "memory"))) "Descrambler.memory",
  PySem.W.keepIn K (.ref (He.fAd K ("Descrambler", some "memory")))]
def hdB15 (K : PySem.W.Frag) : List Bool := [eqOO (PySem.W.nsIn K mainGlobals "without_last_noughts") (some (some (.ref (He.fAd K ("without_last_noughts", none))))),
  eqV (dOf K (He.fAd K ("without_last_noughts", none))) .none,
  PySem.W.codeIn K (cOf K (He.fAd K ("without_last_noughts", none))) "without_last_noughts",
  PySem.W.keepIn K (.ref (He.fAd K ("without_last_noughts", none))),
  eqOO (PySem.W.nsIn K mainGlobals "right_shares") (some (some (.ref (He.fAd K ("right_shares", none))))),
  eqV (dOf K (He.fAd K ("right_shares", none))) .none,
  PySem.W.codeIn K (cOf K (He.fAd K ("right_shares", none))) "right_shares",
  PySem.W.keepIn K (.ref (He.fAd K ("right_shares", none))),
  eqOO (PySem.W.nsIn K mainGlobals "left_behind") (some (some (.ref (He.fAd K ("left_behind", none))))),
  eqV (dOf K (He.fAd K ("left_behind", none))) .none,
  PySem.W.codeIn K (cOf K (He.fAd K ("left_behind", none))) "left_behind",
  PySem.W.keepIn K (.ref (He.fAd K ("left_behind", none))),
  eqOO (PySem.W.nsIn K mainGlobals "no_tones") (some (some (.ref (He.fAd K ("no_tones", none))))),
  eqV (dOf K (He.fAd K ("no_tones", none))) .none,
  PySem.W.codeIn K (cOf K (He.fAd K ("no_tones", none))) "no_tones",
  PySem.W.keepIn K (.ref (He.fAd K ("no_tones", none)))]
def hdB16 (K : PySem.W.Frag) : List Bool := [eqOO (PySem.W.nsIn K mainGlobals "with_latest") (some (some (.ref (He.fAd K ("with_latest", none))))),
  eqV (dOf K (He.fAd K ("with_latest", none))) .none,
  PySem.W.codeIn K (cOf K (He.fAd K ("with_latest", none))) "with_latest",
  PySem.W.keepIn K (.ref (He.fAd K ("with_latest", none))),
  eqOO (PySem.W.findIn K (.ref (He.ga K "Shaper")) "__init__") (some (some (.ref (He.fAd K ("Shaper", some "__init__"))))),
  PySem.W.isFn K (.ref (He.fAd K ("Shaper", some "__init__"))),
  eqV (dOf K (He.fAd K ("Shaper", some "__init__"))) (.ref (adV (dOf K (He.fAd K ("Shaper", some "__init__"))))),
  tupC K (adV (dOf K (He.fAd K ("Shaper", some "__init__")))) #[.ref (adV (itV K (adV (dOf K (He.fAd K ("Shaper", some "__init__")))) 0))],
  tupC K (adV (itV K (adV (dOf K (He.fAd K ("Shaper", some "__init__")))) 0)) #[],
  PySem.W.codeIn K (cOf K (He.fAd K ("Shaper", some "__init__"))) "Shaper.__init__",
  PySem.W.keepIn K (.ref (He.fAd K ("Shaper", some "__init__"))),
  eqOO (PySem.W.findIn K (.ref (He.ga K "Shaper")) "say") (some (some (.ref (He.fAd K ("Shaper", some "say"))))),
  PySem.W.isFn K (.ref (He.fAd K ("Shaper", some "say"))),
  eqV (dOf K (He.fAd K ("Shaper", some "say"))) .none,
  PySem.W.codeIn K (cOf K (He.fAd K ("Shaper", some "say"))) "Shaper.say",
  PySem.W.keepIn K (.ref (He.fAd K ("Shaper", some "say")))]
def hdB17 (K : PySem.W.Frag) : List Bool := [eqOO (PySem.W.findIn K (.ref (He.ga K "Shaper")) "past") (some (some (.ref (He.fAd K ("Shaper", some "past"))))),
  PySem.W.isFn K (.ref (He.fAd K ("Shaper", some "past"))),
  eqV (dOf K (He.fAd K ("Shaper", some "past"))) .none,
  PySem.W.codeIn K (cOf K (He.fAd K ("Shaper", some "past"))) "Shaper.past",
  PySem.W.keepIn K (.ref (He.fAd K ("Shaper", some "past"))),
  eqOO (PySem.W.nsIn K mainGlobals "burst_bits") (some (some (.ref (He.fAd K ("burst_bits", none))))),
  eqV (dOf K (He.fAd K ("burst_bits", none))) .none,
  PySem.W.codeIn K (cOf K (He.fAd K ("burst_bits", none))) "burst_bits",
  PySem.W.keepIn K (.ref (He.fAd K ("burst_bits", none))),
  eqOO (PySem.W.findIn K (.ref (He.ga K "Mouth")) "__init__") (some (some (.ref (He.fAd K ("Mouth", some "__init__"))))),
  PySem.W.isFn K (.ref (He.fAd K ("Mouth", some "__init__"))),
  eqV (dOf K (He.fAd K ("Mouth", some "__init__"))) (.ref (adV (dOf K (He.fAd K ("Mouth", some "__init__"))))),
  eqV (kOf K (He.fAd K ("Mouth", some "__init__"))) (.ref (adV (kOf K (He.fAd K ("Mouth", some "__init__"))))),
  tupC K (adV (dOf K (He.fAd K ("Mouth", some "__init__")))) #[.ref (adV (itV K (adV (dOf K (He.fAd K ("Mouth", some "__init__")))) 0))],
  eqOO (PySem.W.nsIn K (adV (kOf K (He.fAd K ("Mouth", some "__init__")))) "rate") (some (some (.int 1 (tokV (vO (PySem.W.nsIn K (adV (kOf K (He.fAd K ("Mouth", some "__init__")))) "rate")))))),
  eqOO (PySem.W.nsIn K (adV (kOf K (He.fAd K ("Mouth", some "__init__")))) "seed") (some (some (.int 0 (tokV (vO (PySem.W.nsIn K (adV (kOf K (He.fAd K ("Mouth", some "__init__")))) "seed"))))))]
def hdB18 (K : PySem.W.Frag) : List Bool := [tupC K (adV (itV K (adV (dOf K (He.fAd K ("Mouth", some "__init__")))) 0)) #[],
  PySem.W.codeIn K (cOf K (He.fAd K ("Mouth", some "__init__"))) "Mouth.__init__",
  PySem.W.keepIn K (.ref (He.fAd K ("Mouth", some "__init__"))),
  eqOO (PySem.W.findIn K (.ref (He.ga K "Mouth")) "burst") (some (some (.ref (He.fAd K ("Mouth", some "burst"))))),
  PySem.W.isFn K (.ref (He.fAd K ("Mouth", some "burst"))),
  eqV (dOf K (He.fAd K ("Mouth", some "burst"))) .none,
  PySem.W.codeIn K (cOf K (He.fAd K ("Mouth", some "burst"))) "Mouth.burst",
  PySem.W.keepIn K (.ref (He.fAd K ("Mouth", some "burst"))),
  eqOO (PySem.W.nsIn K mainGlobals "check_burst") (some (some (.ref (He.fAd K ("check_burst", none))))),
  eqV (dOf K (He.fAd K ("check_burst", none))) .none,
  PySem.W.codeIn K (cOf K (He.fAd K ("check_burst", none))) "check_burst",
  PySem.W.keepIn K (.ref (He.fAd K ("check_burst", none))),
  eqOO (PySem.W.findIn K (.ref (He.ga K "Ear")) "__init__") (some (some (.ref (He.fAd K ("Ear", some "__init__"))))),
  PySem.W.isFn K (.ref (He.fAd K ("Ear", some "__init__"))),
  eqV (dOf K (He.fAd K ("Ear", some "__init__"))) (.ref (adV (dOf K (He.fAd K ("Ear", some "__init__"))))),
  eqV (kOf K (He.fAd K ("Ear", some "__init__"))) (.ref (adV (kOf K (He.fAd K ("Ear", some "__init__")))))]
def hdB19 (K : PySem.W.Frag) : List Bool := [tupC K (adV (dOf K (He.fAd K ("Ear", some "__init__")))) #[.ref (adV (itV K (adV (dOf K (He.fAd K ("Ear", some "__init__")))) 0))],
  eqOO (PySem.W.nsIn K (adV (kOf K (He.fAd K ("Ear", some "__init__")))) "rate") (some (some (.int 1 (tokV (vO (PySem.W.nsIn K (adV (kOf K (He.fAd K ("Ear", some "__init__")))) "rate")))))),
  eqOO (PySem.W.nsIn K (adV (kOf K (He.fAd K ("Ear", some "__init__")))) "seed") (some (some (.int 0 (tokV (vO (PySem.W.nsIn K (adV (kOf K (He.fAd K ("Ear", some "__init__")))) "seed")))))),
  tupC K (adV (itV K (adV (dOf K (He.fAd K ("Ear", some "__init__")))) 0)) #[],
  PySem.W.codeIn K (cOf K (He.fAd K ("Ear", some "__init__"))) "Ear.__init__",
  PySem.W.keepIn K (.ref (He.fAd K ("Ear", some "__init__"))),
  eqOO (PySem.W.findIn K (.ref (He.ga K "Ear")) "hear") (some (some (.ref (He.fAd K ("Ear", some "hear"))))),
  PySem.W.isFn K (.ref (He.fAd K ("Ear", some "hear"))),
  eqV (dOf K (He.fAd K ("Ear", some "hear"))) .none,
  PySem.W.codeIn K (cOf K (He.fAd K ("Ear", some "hear"))) "Ear.hear",
  PySem.W.keepIn K (.ref (He.fAd K ("Ear", some "hear"))),
  eqOO (PySem.W.findIn K (.ref (He.ga K "Ear")) "hurt") (some (some (.ref (He.fAd K ("Ear", some "hurt"))))),
  PySem.W.isFn K (.ref (He.fAd K ("Ear", some "hurt"))),
  eqV (dOf K (He.fAd K ("Ear", some "hurt"))) .none,
  PySem.W.codeIn K (cOf K (He.fAd K ("Ear", some "hurt"))) "Ear.hurt",
  PySem.W.keepIn K (.ref (He.fAd K ("Ear", some "hurt")))]
def hdB20 (K : PySem.W.Frag) : List Bool := [eqOO (PySem.W.findIn K (.ref (He.ga K "Wire")) "__init__") (some (some (.ref (He.fAd K ("Wire", some "__init__"))))),
  PySem.W.isFn K (.ref (He.fAd K ("Wire", some "__init__"))),
  eqV (dOf K (He.fAd K ("Wire", some "__init__"))) .none,
  eqV (kOf K (He.fAd K ("Wire", some "__init__"))) (.ref (adV (kOf K (He.fAd K ("Wire", some "__init__"))))),
  eqOO (PySem.W.nsIn K (adV (kOf K (He.fAd K ("Wire", some "__init__")))) "forth") (some (some (.ref (adV (vO (PySem.W.nsIn K (adV (kOf K (He.fAd K ("Wire", some "__init__")))) "forth")))))),
  eqOO (PySem.W.nsIn K (adV (kOf K (He.fAd K ("Wire", some "__init__")))) "back") (some (some (.ref (adV (vO (PySem.W.nsIn K (adV (kOf K (He.fAd K ("Wire", some "__init__")))) "back")))))),
  eqOO (PySem.W.nsIn K (adV (kOf K (He.fAd K ("Wire", some "__init__")))) "near") (some (some (.ref (adV (vO (PySem.W.nsIn K (adV (kOf K (He.fAd K ("Wire", some "__init__")))) "near")))))),
  eqOO (PySem.W.nsIn K (adV (kOf K (He.fAd K ("Wire", some "__init__")))) "far") (some (some (.ref (adV (vO (PySem.W.nsIn K (adV (kOf K (He.fAd K ("Wire", some "__init__")))) "far")))))),
  tupC K (adV (vO (PySem.W.nsIn K (adV (kOf K (He.fAd K ("Wire", some "__init__")))) "forth"))) #[],
  tupC K (adV (vO (PySem.W.nsIn K (adV (kOf K (He.fAd K ("Wire", some "__init__")))) "back"))) #[],
  tupC K (adV (vO (PySem.W.nsIn K (adV (kOf K (He.fAd K ("Wire", some "__init__")))) "near"))) #[],
  tupC K (adV (vO (PySem.W.nsIn K (adV (kOf K (He.fAd K ("Wire", some "__init__")))) "far"))) #[],
  PySem.W.codeIn K (cOf K (He.fAd K ("Wire", some "__init__"))) "Wire.__init__",
  PySem.W.keepIn K (.ref (He.fAd K ("Wire", some "__init__"))),
  eqOO (PySem.W.findIn K (.ref (He.ga K "Wire")) "shares") (some (some (.ref (He.fAd K ("Wire", some "shares"))))),
  PySem.W.isFn K (.ref (He.fAd K ("Wire", some "shares")))]
def hdB21 (K : PySem.W.Frag) : List Bool := [eqV (dOf K (He.fAd K ("Wire", some "shares"))) .none,
  PySem.W.codeIn K (cOf K (He.fAd K ("Wire", some "shares"))) "Wire.shares",
  PySem.W.keepIn K (.ref (He.fAd K ("Wire", some "shares"))),
  eqOO (PySem.W.findIn K (.ref (He.ga K "Wire")) "__eq__") (some (some (.ref (He.fAd K ("Wire", some "__eq__"))))),
  PySem.W.isFn K (.ref (He.fAd K ("Wire", some "__eq__"))),
  eqV (dOf K (He.fAd K ("Wire", some "__eq__"))) .none,
  PySem.W.codeIn K (cOf K (He.fAd K ("Wire", some "__eq__"))) "Wire.__eq__",
  PySem.W.keepIn K (.ref (He.fAd K ("Wire", some "__eq__"))),
  eqOO (PySem.W.nsIn K mainGlobals "_law_bag") (some (some (.ref (He.fAd K ("_law_bag", none))))),
  eqV (dOf K (He.fAd K ("_law_bag", none))) .none,
  PySem.W.codeIn K (cOf K (He.fAd K ("_law_bag", none))) "_law_bag",
  PySem.W.keepIn K (.ref (He.fAd K ("_law_bag", none))),
  eqOO (PySem.W.nsIn K mainGlobals "_law_pick") (some (some (.ref (He.fAd K ("_law_pick", none))))),
  eqV (dOf K (He.fAd K ("_law_pick", none))) .none,
  PySem.W.codeIn K (cOf K (He.fAd K ("_law_pick", none))) "_law_pick",
  PySem.W.keepIn K (.ref (He.fAd K ("_law_pick", none)))]
def hdB22 (K : PySem.W.Frag) : List Bool := [eqOO (PySem.W.nsIn K mainGlobals "_law_of") (some (some (.ref (He.fAd K ("_law_of", none))))),
  eqV (dOf K (He.fAd K ("_law_of", none))) .none,
  PySem.W.codeIn K (cOf K (He.fAd K ("_law_of", none))) "_law_of",
  PySem.W.keepIn K (.ref (He.fAd K ("_law_of", none))),
  eqOO (PySem.W.nsIn K mainGlobals "_law_same") (some (some (.ref (He.fAd K ("_law_same", none))))),
  eqV (dOf K (He.fAd K ("_law_same", none))) .none,
  PySem.W.codeIn K (cOf K (He.fAd K ("_law_same", none))) "_law_same",
  PySem.W.keepIn K (.ref (He.fAd K ("_law_same", none))),
  eqOO (PySem.W.nsIn K mainGlobals "_law_tried") (some (some (.ref (He.fAd K ("_law_tried", none))))),
  eqV (dOf K (He.fAd K ("_law_tried", none))) .none,
  PySem.W.codeIn K (cOf K (He.fAd K ("_law_tried", none))) "_law_tried",
  PySem.W.keepIn K (.ref (He.fAd K ("_law_tried", none))),
  eqOO (PySem.W.nsIn K mainGlobals "_law_far") (some (some (.ref (He.fAd K ("_law_far", none))))),
  eqV (dOf K (He.fAd K ("_law_far", none))) .none,
  PySem.W.codeIn K (cOf K (He.fAd K ("_law_far", none))) "_law_far",
  PySem.W.keepIn K (.ref (He.fAd K ("_law_far", none)))]
def hdB23 (K : PySem.W.Frag) : List Bool := [eqOO (PySem.W.nsIn K mainGlobals "_law_shares") (some (some (.ref (He.fAd K ("_law_shares", none))))),
  eqV (dOf K (He.fAd K ("_law_shares", none))) .none,
  PySem.W.codeIn K (cOf K (He.fAd K ("_law_shares", none))) "_law_shares",
  PySem.W.keepIn K (.ref (He.fAd K ("_law_shares", none))),
  eqOO (PySem.W.nsIn K mainGlobals "_law_trimmed") (some (some (.ref (He.fAd K ("_law_trimmed", none))))),
  eqV (dOf K (He.fAd K ("_law_trimmed", none))) .none,
  PySem.W.codeIn K (cOf K (He.fAd K ("_law_trimmed", none))) "_law_trimmed",
  PySem.W.keepIn K (.ref (He.fAd K ("_law_trimmed", none))),
  eqOO (PySem.W.nsIn K mainGlobals "_law_tone") (some (some (.ref (He.fAd K ("_law_tone", none))))),
  eqV (dOf K (He.fAd K ("_law_tone", none))) .none,
  PySem.W.codeIn K (cOf K (He.fAd K ("_law_tone", none))) "_law_tone",
  PySem.W.keepIn K (.ref (He.fAd K ("_law_tone", none))),
  eqOO (PySem.W.nsIn K mainGlobals "_law_bad_shares") (some (some (.ref (He.fAd K ("_law_bad_shares", none))))),
  eqV (dOf K (He.fAd K ("_law_bad_shares", none))) .none,
  PySem.W.codeIn K (cOf K (He.fAd K ("_law_bad_shares", none))) "_law_bad_shares",
  PySem.W.keepIn K (.ref (He.fAd K ("_law_bad_shares", none)))]
def hdB24 (K : PySem.W.Frag) : List Bool := [eqOO (PySem.W.nsIn K mainGlobals "_law_noughts_behind") (some (some (.ref (He.fAd K ("_law_noughts_behind", none))))),
  eqV (dOf K (He.fAd K ("_law_noughts_behind", none))) .none,
  PySem.W.codeIn K (cOf K (He.fAd K ("_law_noughts_behind", none))) "_law_noughts_behind",
  PySem.W.keepIn K (.ref (He.fAd K ("_law_noughts_behind", none))),
  eqOO (PySem.W.nsIn K mainGlobals "law") (some (some (.ref (He.fAd K ("law", none))))),
  eqV (dOf K (He.fAd K ("law", none))) .none,
  eqV (cOf K (He.fAd K ("law", none))) (.ref (He.cT K ("law", none)).1),
  PySem.W.codeIn K (.ref (He.cT K ("law", none)).1) "law",
  PySem.W.keepIn K (.ref (He.fAd K ("law", none))),
  fldC K (He.cT K ("law", none)).1 (He.cT K ("law", none)).2,
  eqOO (PySem.W.nsIn K mainGlobals "LineError") (some (some (.ref (He.ga K "LineError")))),
  eqOO (PySem.W.specialIn K (.ref (He.ga K "LineError")) "__getattribute__") (some (some (.builtin "type.__getattribute__"))),
  eqOV (PySem.W.typeIn K (.ref (He.ga K "LineError"))) (some (.type "type")),
  PySem.W.readsIn K (He.ga K "LineError") (.type "type"),
  valIs (PySem.W.findCls K (.ref (He.ga K "LineError")) (.type "type") "__init__") (.ref (He.fAd K ("LineError", some "__init__"))),
  PySem.W.keepIn K (.ref (He.fAd K ("LineError", some "__init__")))]
def hdB25 (K : PySem.W.Frag) : List Bool := [eqV (dOf K (He.fAd K ("LineError", some "__init__"))) (.ref (adV (dOf K (He.fAd K ("LineError", some "__init__"))))),
  PySem.W.codeIn K (cOf K (He.fAd K ("LineError", some "__init__"))) "LineError.__init__",
  tupC K (adV (dOf K (He.fAd K ("LineError", some "__init__")))) #[.str "LineError" (tokV (itV K (adV (dOf K (He.fAd K ("LineError", some "__init__")))) 0)), .str "refused" (tokV (itV K (adV (dOf K (He.fAd K ("LineError", some "__init__")))) 1))],
  valIs (PySem.W.findCls K (.type "ValueError") (.type "type") "__init__") (.builtin "ValueError.__init__"),
  eqOO (PySem.W.nsIn K mainGlobals "ValueError") (some none),
  eqOO (PySem.W.nsIn K mainGlobals "BadBit") (some (some (.ref (He.ga K "BadBit")))),
  eqOO (PySem.W.findIn K (.ref (He.ga K "BadBit")) "__getattribute__") (some (some (.builtin "BaseException.__getattribute__"))),
  eqOO (PySem.W.findIn K (.ref (He.ga K "BadBit")) "__getattr__") (some none),
  eqOb (PySem.W.subIn K (.ref (He.ga K "BadBit")) (.type "BaseException")) (some true),
  PySem.W.hasDictIn K (He.ga K "BadBit"),
  eqOO (PySem.W.findIn K (.ref (He.ga K "BadBit")) "at") (some none),
  eqOO (PySem.W.nsIn K mainGlobals "BadFrame") (some (some (.ref (He.ga K "BadFrame")))),
  eqOO (PySem.W.findIn K (.ref (He.ga K "BadFrame")) "__getattribute__") (some (some (.builtin "BaseException.__getattribute__"))),
  eqOO (PySem.W.findIn K (.ref (He.ga K "BadFrame")) "__getattr__") (some none),
  eqOb (PySem.W.subIn K (.ref (He.ga K "BadFrame")) (.type "BaseException")) (some true),
  PySem.W.hasDictIn K (He.ga K "BadFrame")]
def hdB26 (K : PySem.W.Frag) : List Bool := [eqOO (PySem.W.findIn K (.ref (He.ga K "BadFrame")) "at") (some none),
  eqOO (PySem.W.nsIn K mainGlobals "BadCount") (some (some (.ref (He.ga K "BadCount")))),
  eqOO (PySem.W.findIn K (.ref (He.ga K "BadCount")) "__getattribute__") (some (some (.builtin "BaseException.__getattribute__"))),
  eqOO (PySem.W.findIn K (.ref (He.ga K "BadCount")) "__getattr__") (some none),
  eqOb (PySem.W.subIn K (.ref (He.ga K "BadCount")) (.type "BaseException")) (some true),
  PySem.W.hasDictIn K (He.ga K "BadCount"),
  eqOO (PySem.W.nsIn K mainGlobals "BadRate") (some (some (.ref (He.ga K "BadRate")))),
  eqOO (PySem.W.findIn K (.ref (He.ga K "BadRate")) "__getattribute__") (some (some (.builtin "BaseException.__getattribute__"))),
  eqOO (PySem.W.findIn K (.ref (He.ga K "BadRate")) "__getattr__") (some none),
  eqOb (PySem.W.subIn K (.ref (He.ga K "BadRate")) (.type "BaseException")) (some true),
  PySem.W.hasDictIn K (He.ga K "BadRate"),
  eqOO (PySem.W.nsIn K mainGlobals "BadTaps") (some (some (.ref (He.ga K "BadTaps")))),
  eqOO (PySem.W.findIn K (.ref (He.ga K "BadTaps")) "__getattribute__") (some (some (.builtin "BaseException.__getattribute__"))),
  eqOO (PySem.W.findIn K (.ref (He.ga K "BadTaps")) "__getattr__") (some none),
  eqOb (PySem.W.subIn K (.ref (He.ga K "BadTaps")) (.type "BaseException")) (some true),
  PySem.W.hasDictIn K (He.ga K "BadTaps")]
def hdB27 (K : PySem.W.Frag) : List Bool := [eqOO (PySem.W.nsIn K mainGlobals "BadNoise") (some (some (.ref (He.ga K "BadNoise")))),
  eqOO (PySem.W.findIn K (.ref (He.ga K "BadNoise")) "__getattribute__") (some (some (.builtin "BaseException.__getattribute__"))),
  eqOO (PySem.W.findIn K (.ref (He.ga K "BadNoise")) "__getattr__") (some none),
  eqOb (PySem.W.subIn K (.ref (He.ga K "BadNoise")) (.type "BaseException")) (some true),
  PySem.W.hasDictIn K (He.ga K "BadNoise"),
  eqOO (PySem.W.nsIn K mainGlobals "Missing") (some (some (.ref (He.ga K "Missing")))),
  eqOb (PySem.W.exmOne K (.ref (He.ga K "BadCount")) (.ref (He.ga K "LineError"))) (some true),
  eqOb (PySem.W.exmOne K (.ref (He.ga K "BadTaps")) (.ref (He.ga K "LineError"))) (some true),
  eqOb (PySem.W.exmOne K (.ref (He.ga K "BadFrame")) (.ref (He.ga K "BadFrame"))) (some true),
  clsC K (He.ga K "BadBit"),
  eqOO (PySem.W.findIn K (.ref (He.ga K "BadBit")) "__setattr__") (some (some (.builtin "object.__setattr__"))),
  eqOV (PySem.W.typeIn K (.ref (He.ga K "BadBit"))) (some (.type "type")),
  PySem.W.keepIn K (.ref (He.ga K "BadBit")),
  eqOO (PySem.W.findIn K (.ref (He.ga K "BadBit")) "__init__") (some (some (.ref (He.fAd K ("BadBit", some "__init__"))))),
  eqOV (PySem.W.typeIn K (.ref (He.fAd K ("BadBit", some "__init__")))) (some (.type "function")),
  eqV (dOf K (He.fAd K ("BadBit", some "__init__"))) .none]
def hdB28 (K : PySem.W.Frag) : List Bool := [PySem.W.codeIn K (cOf K (He.fAd K ("BadBit", some "__init__"))) "BadBit.__init__",
  PySem.W.keepIn K (.ref (He.fAd K ("BadBit", some "__init__"))),
  eqOO (PySem.W.findIn K (.ref (He.ga K "BadBit")) "word") (some none),
  clsC K (He.ga K "BadFrame"),
  eqOO (PySem.W.findIn K (.ref (He.ga K "BadFrame")) "__setattr__") (some (some (.builtin "object.__setattr__"))),
  eqOV (PySem.W.typeIn K (.ref (He.ga K "BadFrame"))) (some (.type "type")),
  PySem.W.keepIn K (.ref (He.ga K "BadFrame")),
  eqOO (PySem.W.findIn K (.ref (He.ga K "BadFrame")) "__init__") (some (some (.ref (He.fAd K ("BadFrame", some "__init__"))))),
  eqOV (PySem.W.typeIn K (.ref (He.fAd K ("BadFrame", some "__init__")))) (some (.type "function")),
  eqV (dOf K (He.fAd K ("BadFrame", some "__init__"))) .none,
  PySem.W.codeIn K (cOf K (He.fAd K ("BadFrame", some "__init__"))) "BadFrame.__init__",
  PySem.W.keepIn K (.ref (He.fAd K ("BadFrame", some "__init__"))),
  eqOO (PySem.W.findIn K (.ref (He.ga K "BadFrame")) "word") (some none),
  clsC K (He.ga K "BadCount"),
  eqOO (PySem.W.findIn K (.ref (He.ga K "BadCount")) "__setattr__") (some (some (.builtin "object.__setattr__"))),
  eqOV (PySem.W.typeIn K (.ref (He.ga K "BadCount"))) (some (.type "type"))]
def hdB29 (K : PySem.W.Frag) : List Bool := [PySem.W.keepIn K (.ref (He.ga K "BadCount")),
  eqOO (PySem.W.findIn K (.ref (He.ga K "BadCount")) "__init__") (some (some (.ref (He.fAd K ("BadCount", some "__init__"))))),
  eqOV (PySem.W.typeIn K (.ref (He.fAd K ("BadCount", some "__init__")))) (some (.type "function")),
  eqV (dOf K (He.fAd K ("BadCount", some "__init__"))) .none,
  PySem.W.codeIn K (cOf K (He.fAd K ("BadCount", some "__init__"))) "BadCount.__init__",
  PySem.W.keepIn K (.ref (He.fAd K ("BadCount", some "__init__"))),
  eqOO (PySem.W.findIn K (.ref (He.ga K "BadCount")) "word") (some none),
  clsC K (He.ga K "BadRate"),
  eqOO (PySem.W.findIn K (.ref (He.ga K "BadRate")) "__setattr__") (some (some (.builtin "object.__setattr__"))),
  eqOV (PySem.W.typeIn K (.ref (He.ga K "BadRate"))) (some (.type "type")),
  PySem.W.keepIn K (.ref (He.ga K "BadRate")),
  eqOO (PySem.W.findIn K (.ref (He.ga K "BadRate")) "__init__") (some (some (.ref (He.fAd K ("BadRate", some "__init__"))))),
  eqOV (PySem.W.typeIn K (.ref (He.fAd K ("BadRate", some "__init__")))) (some (.type "function")),
  eqV (dOf K (He.fAd K ("BadRate", some "__init__"))) .none,
  PySem.W.codeIn K (cOf K (He.fAd K ("BadRate", some "__init__"))) "BadRate.__init__",
  PySem.W.keepIn K (.ref (He.fAd K ("BadRate", some "__init__")))]
def hdB30 (K : PySem.W.Frag) : List Bool := [eqOO (PySem.W.findIn K (.ref (He.ga K "BadRate")) "word") (some none),
  clsC K (He.ga K "BadTaps"),
  eqOO (PySem.W.findIn K (.ref (He.ga K "BadTaps")) "__setattr__") (some (some (.builtin "object.__setattr__"))),
  eqOV (PySem.W.typeIn K (.ref (He.ga K "BadTaps"))) (some (.type "type")),
  PySem.W.keepIn K (.ref (He.ga K "BadTaps")),
  eqOO (PySem.W.findIn K (.ref (He.ga K "BadTaps")) "__init__") (some (some (.ref (He.fAd K ("BadTaps", some "__init__"))))),
  eqOV (PySem.W.typeIn K (.ref (He.fAd K ("BadTaps", some "__init__")))) (some (.type "function")),
  eqV (dOf K (He.fAd K ("BadTaps", some "__init__"))) .none,
  PySem.W.codeIn K (cOf K (He.fAd K ("BadTaps", some "__init__"))) "BadTaps.__init__",
  PySem.W.keepIn K (.ref (He.fAd K ("BadTaps", some "__init__"))),
  eqOO (PySem.W.findIn K (.ref (He.ga K "BadTaps")) "word") (some none),
  clsC K (He.ga K "BadNoise"),
  eqOO (PySem.W.findIn K (.ref (He.ga K "BadNoise")) "__setattr__") (some (some (.builtin "object.__setattr__"))),
  eqOV (PySem.W.typeIn K (.ref (He.ga K "BadNoise"))) (some (.type "type")),
  PySem.W.keepIn K (.ref (He.ga K "BadNoise")),
  eqOO (PySem.W.findIn K (.ref (He.ga K "BadNoise")) "__init__") (some (some (.ref (He.fAd K ("BadNoise", some "__init__")))))]
def hdB31 (K : PySem.W.Frag) : List Bool := [eqOV (PySem.W.typeIn K (.ref (He.fAd K ("BadNoise", some "__init__")))) (some (.type "function")),
  eqV (dOf K (He.fAd K ("BadNoise", some "__init__"))) .none,
  PySem.W.codeIn K (cOf K (He.fAd K ("BadNoise", some "__init__"))) "BadNoise.__init__",
  PySem.W.keepIn K (.ref (He.fAd K ("BadNoise", some "__init__"))),
  eqOO (PySem.W.findIn K (.ref (He.ga K "BadNoise")) "word") (some none),
  eqOO (PySem.W.nsIn K mainGlobals "enumerate") (some none),
  eqOO (PySem.W.nsIn K mainGlobals "len") (some none),
  eqOO (PySem.W.nsIn K mainGlobals "range") (some none),
  eqOO (PySem.W.nsIn K mainGlobals "list") (some none),
  eqOO (PySem.W.nsIn K mainGlobals "tuple") (some none),
  eqOO (PySem.W.nsIn K mainGlobals "abs") (some none),
  eqOO (PySem.W.nsIn K mainGlobals "min") (some none),
  eqOO (PySem.W.nsIn K mainGlobals "reversed") (some none),
  eqOO (PySem.W.nsIn K mainGlobals "sum") (some none),
  eqOO (PySem.W.nsIn K mainGlobals "zip") (some none),
  eqOO (PySem.W.nsIn K mainGlobals "isinstance") (some none)]
def hdB32 (K : PySem.W.Frag) : List Bool := [eqOO (PySem.W.nsIn K mainGlobals "all") (some none),
  eqOO (PySem.W.nsIn K mainGlobals "bool") (some none),
  eqOO (PySem.W.nsIn K mainGlobals "int") (some none),
  eqOO (PySem.W.nsIn K mainGlobals "str") (some none),
  eqOO (PySem.W.nsIn K mainGlobals "MOST_BITS") (some (some (.int 64 (tokV (vO (PySem.W.nsIn K mainGlobals "MOST_BITS")))))),
  eqOO (PySem.W.nsIn K mainGlobals "MEMORY_BITS") (some (some (.int 7 (tokV (vO (PySem.W.nsIn K mainGlobals "MEMORY_BITS")))))),
  eqOO (PySem.W.nsIn K mainGlobals "FOURTH") (some (some (.int 3 (tokV (vO (PySem.W.nsIn K mainGlobals "FOURTH")))))),
  eqOO (PySem.W.nsIn K mainGlobals "SEVENTH") (some (some (.int 6 (tokV (vO (PySem.W.nsIn K mainGlobals "SEVENTH")))))),
  eqOO (PySem.W.nsIn K mainGlobals "SEAL") (some (some (.int 16 (tokV (vO (PySem.W.nsIn K mainGlobals "SEAL")))))),
  eqOO (PySem.W.nsIn K mainGlobals "TURNED") (some (some (.ref (He.ga K "TURNED")))),
  tupC K (He.ga K "TURNED") #[.int 3 (tokV (itV K (He.ga K "TURNED") 0)), .int 10 (tokV (itV K (He.ga K "TURNED") 1)), .int 15 (tokV (itV K (He.ga K "TURNED") 2))],
  eqOO (PySem.W.nsIn K mainGlobals "MOST_ONES") (some (some (.int 5 (tokV (vO (PySem.W.nsIn K mainGlobals "MOST_ONES")))))),
  eqOO (PySem.W.nsIn K mainGlobals "LONGEST") (some (some (.int 256 (tokV (vO (PySem.W.nsIn K mainGlobals "LONGEST")))))),
  eqOO (PySem.W.nsIn K mainGlobals "MARK") (some (some (.ref (He.ga K "MARK")))),
  tupC K (He.ga K "MARK") #[.int 0 (tokV (itV K (He.ga K "MARK") 0)), .int 1 (tokV (itV K (He.ga K "MARK") 1)), .int 1 (tokV (itV K (He.ga K "MARK") 2)), .int 1 (tokV (itV K (He.ga K "MARK") 3)), .int 1 (tokV (itV K (He.ga K "MARK") 4)), .int 1 (tokV (itV K (He.ga K "MARK") 5)), .int 1 (tokV (itV K (He.ga K "MARK") 6)), .int 0 (tokV (itV K (He.ga K "MARK") 7))],
  eqOO (PySem.W.nsIn K mainGlobals "RING") (some (some (.int 256 (tokV (vO (PySem.W.nsIn K mainGlobals "RING"))))))]
def hdB33 (K : PySem.W.Frag) : List Bool := [eqOO (PySem.W.nsIn K mainGlobals "RATES") (some (some (.ref (He.ga K "RATES")))),
  tupC K (He.ga K "RATES") #[.int 1 (tokV (itV K (He.ga K "RATES") 0)), .int 2 (tokV (itV K (He.ga K "RATES") 1)), .int 3 (tokV (itV K (He.ga K "RATES") 2)), .int 4 (tokV (itV K (He.ga K "RATES") 3))],
  eqOO (PySem.W.nsIn K mainGlobals "FEWEST_POINTS") (some (some (.int 4 (tokV (vO (PySem.W.nsIn K mainGlobals "FEWEST_POINTS")))))),
  eqOO (PySem.W.nsIn K mainGlobals "MOST_SHARES") (some (some (.int 4 (tokV (vO (PySem.W.nsIn K mainGlobals "MOST_SHARES")))))),
  eqOO (PySem.W.nsIn K mainGlobals "GREATEST_SHARE") (some (some (.int 3 (tokV (vO (PySem.W.nsIn K mainGlobals "GREATEST_SHARE")))))),
  eqOO (PySem.W.nsIn K mainGlobals "TAIL") (some (some (.int 2 (tokV (vO (PySem.W.nsIn K mainGlobals "TAIL")))))),
  eqOO (PySem.W.nsIn K mainGlobals "DATA") (some (some (.int 16 (tokV (vO (PySem.W.nsIn K mainGlobals "DATA")))))),
  eqOO (PySem.W.nsIn K mainGlobals "MOST_QUEUE") (some (some (.int 2000 (tokV (vO (PySem.W.nsIn K mainGlobals "MOST_QUEUE")))))),
  eqOO (PySem.W.nsIn K mainGlobals "MOST_OPEN") (some (some (.int 400 (tokV (vO (PySem.W.nsIn K mainGlobals "MOST_OPEN")))))),
  eqOO (PySem.W.nsIn K mainGlobals "STATES") (some (some (.int 4 (tokV (vO (PySem.W.nsIn K mainGlobals "STATES")))))),
  eqOO (PySem.W.nsIn K mainGlobals "BURST") (some (some (.int 18 (tokV (vO (PySem.W.nsIn K mainGlobals "BURST"))))))]
def hdB : List (PySem.W.Frag → List Bool) := [hdB0, hdB1, hdB2, hdB3, hdB4, hdB5, hdB6, hdB7, hdB8, hdB9, hdB10, hdB11, hdB12, hdB13, hdB14, hdB15, hdB16, hdB17, hdB18, hdB19, hdB20, hdB21, hdB22, hdB23, hdB24, hdB25, hdB26, hdB27, hdB28, hdB29, hdB30, hdB31, hdB32, hdB33]
def hdT : List He.Defn := [("law", none)]
def hdN0 : List Str := ["_wall", "__name__", "LineError", "BadBit", "BadFrame", "BadCount", "BadRate", "BadTaps", "BadNoise", "TooLong", "Full", "Missing", "MOST_SHARES", "GREATEST_SHARE", "without_last_noughts", "right_shares", "left_behind", "no_tones", "with_latest", "Wire"]
def hdN1 : List Str := ["RING", "RATES", "FEWEST_POINTS", "check_rate", "folded", "apart", "points_at", "step", "point", "Shaper", "MOST_BITS", "check_bits", "number_bits", "bits_number", "SEAL", "TURNED", "moved_on", "seal_of", "sealed", "holds"]
def hdN2 : List Str := ["LONGEST", "MOST_OPEN", "MARK", "MOST_ONES", "stuffed", "unstuffed", "framed", "payload_between", "Reader", "TAIL", "STATES", "moved", "class_of", "coded", "nearest_of_class", "onward", "best_of_beat", "tail_costs", "bits_along", "heard_path"]
def hdN3 : List Str := ["DATA", "BURST", "MEMORY_BITS", "FOURTH", "SEVENTH", "pushed_through", "Scrambler", "Descrambler", "MOST_QUEUE", "burst_bits", "check_burst", "Mouth", "Ear", "_law_bag", "_law_pick", "_law_of", "_law_same", "_law_tried", "_law_far", "_law_shares"]
def hdN4 : List Str := ["_law_trimmed", "_law_tone", "_law_bad_shares", "_law_noughts_behind"]
def hdN : List Str := hdN0 ++ hdN1 ++ hdN2 ++ hdN3 ++ hdN4
abbrev hdR : PySem.W.OpenRow := PySem.W.OpenLaw.row PySem.Challenge.rw_warbleline_k30_wires_and_shapers_refused
abbrev hdq : Program := PySem.W.view hdR.prog [95]
abbrev hdH : PySem.W.Hook := hookB 8 hdF hdT hdB
def hdO (s : PySem.W.SharedT) : List He.FnW × Bool := obsB 8 hdF hdT hdB (HandSHeadRun.getT s)
theorem hdO_eq (s : PySem.W.SharedT) : hdO s = hdH.obs s.abs := obsB_eq (HandSHeadRun.getT_eq s)
set_option maxHeartbeats 0 in
theorem hd_r_look (w : World) (os : OsState) : (HandSHeadRun.endF (HandSHeadRun.stepQ (HandSHeadRun.denQ HandSHeadRun.tabQ) hdR.prog w) 12000 hdR.prog w os).map (fun s => HandSHeadRun.looksF hdR.prog (PySem.W.boot_heap w.params) s.abs) = some true := by kernel_rfl
set_option maxHeartbeats 0 in
theorem hd_r_seen (w : World) (os : OsState) : (HandSHeadRun.endF (HandSHeadRun.stepQ (HandSHeadRun.denQ HandSHeadRun.tabQ) hdR.prog w) 12000 hdR.prog w os).map (fun s => HandSHeadRun.seenQ hdq hdN (importedModules hdR.prog.main.body) (fun s => PySem.W.xlAt hdq [] s && PySem.W.recOk hdR.toRowW.records s) s.abs) = some (PySem.W.openGood hdq hdN) := by kernel_rfl
set_option maxHeartbeats 0 in
theorem hd_r_f0 (w : World) (os : OsState) : (HandSHeadRun.endF (HandSHeadRun.stepQ (HandSHeadRun.denQ HandSHeadRun.tabQ) hdR.prog w) 12000 hdR.prog w os).map (fun s => fnE (KB 8 (HandSHeadRun.getT s)) (hdF.take 31)) = some ((hdF.take 31).map He.DefD.val) := by kernel_rfl
set_option maxHeartbeats 0 in
theorem hd_r_f1 (w : World) (os : OsState) : (HandSHeadRun.endF (HandSHeadRun.stepQ (HandSHeadRun.denQ HandSHeadRun.tabQ) hdR.prog w) 12000 hdR.prog w os).map (fun s => fnE (KB 8 (HandSHeadRun.getT s)) ((hdF.drop 31).take 31)) = some (((hdF.drop 31).take 31).map He.DefD.val) := by kernel_rfl
set_option maxHeartbeats 0 in
theorem hd_r_f2 (w : World) (os : OsState) : (HandSHeadRun.endF (HandSHeadRun.stepQ (HandSHeadRun.denQ HandSHeadRun.tabQ) hdR.prog w) 12000 hdR.prog w os).map (fun s => fnE (KB 8 (HandSHeadRun.getT s)) ((hdF.drop 31).drop 31)) = some (((hdF.drop 31).drop 31).map He.DefD.val) := by kernel_rfl
set_option maxHeartbeats 0 in
theorem hd_r_b0 (w : World) (os : OsState) : (HandSHeadRun.endF (HandSHeadRun.stepQ (HandSHeadRun.denQ HandSHeadRun.tabQ) hdR.prog w) 12000 hdR.prog w os).map (fun s => exE (KB 8 (HandSHeadRun.getT s)) (hdB.take 7)) = some true := by kernel_rfl
set_option maxHeartbeats 0 in
theorem hd_r_b1 (w : World) (os : OsState) : (HandSHeadRun.endF (HandSHeadRun.stepQ (HandSHeadRun.denQ HandSHeadRun.tabQ) hdR.prog w) 12000 hdR.prog w os).map (fun s => exE (KB 8 (HandSHeadRun.getT s)) ((hdB.drop 7).take 7)) = some true := by kernel_rfl
set_option maxHeartbeats 0 in
theorem hd_r_b2 (w : World) (os : OsState) : (HandSHeadRun.endF (HandSHeadRun.stepQ (HandSHeadRun.denQ HandSHeadRun.tabQ) hdR.prog w) 12000 hdR.prog w os).map (fun s => exE (KB 8 (HandSHeadRun.getT s)) (((hdB.drop 7).drop 7).take 7)) = some true := by kernel_rfl
set_option maxHeartbeats 0 in
theorem hd_r_b3 (w : World) (os : OsState) : (HandSHeadRun.endF (HandSHeadRun.stepQ (HandSHeadRun.denQ HandSHeadRun.tabQ) hdR.prog w) 12000 hdR.prog w os).map (fun s => exE (KB 8 (HandSHeadRun.getT s)) ((((hdB.drop 7).drop 7).drop 7).take 7)) = some true := by kernel_rfl
set_option maxHeartbeats 0 in
theorem hd_r_b4 (w : World) (os : OsState) : (HandSHeadRun.endF (HandSHeadRun.stepQ (HandSHeadRun.denQ HandSHeadRun.tabQ) hdR.prog w) 12000 hdR.prog w os).map (fun s => exE (KB 8 (HandSHeadRun.getT s)) ((((hdB.drop 7).drop 7).drop 7).drop 7)) = some true := by kernel_rfl
set_option maxHeartbeats 0 in
theorem hd_r_t (w : World) (os : OsState) : (HandSHeadRun.endF (HandSHeadRun.stepQ (HandSHeadRun.denQ HandSHeadRun.tabQ) hdR.prog w) 12000 hdR.prog w os).map (fun s => He.tabsB (HandSHeadRun.getT s) hdT (KB 8 (HandSHeadRun.getT s))) = some true := by kernel_rfl
set_option maxHeartbeats 0 in
theorem hd_run (w : World) : HandSHeadRun.RunEq hdR hdq hdH hdO 12000 hdN w := by
  exact runEq_of (r := hdR) (q := hdq) (n := 8) (M := 12000) (fn := hdF) (tf := hdT) (ex := hdB) (loose := hdN) (w := w) (hd_r_look w) (hd_r_seen w) (fun os s e => (fn_two 31 (run_at e (hd_r_f0 w os)) (fn_two 31 (run_at e (hd_r_f1 w os)) (run_at e (hd_r_f2 w os))))) (fun os s e => (ex_two 7 (run_at e (hd_r_b0 w os)) (ex_two 7 (run_at e (hd_r_b1 w os)) (ex_two 7 (run_at e (hd_r_b2 w os)) (ex_two 7 (run_at e (hd_r_b3 w os)) (run_at e (hd_r_b4 w os))))))) (fun os s e => run_at e (hd_r_t w os))
end WB
set_option Elab.async false
set_option linter.all false
set_option maxRecDepth 100000
set_option maxHeartbeats 2000000
namespace WB
open PySem PySem.Spec PyProof.Rows L2
/-! ### a def that may be called by its name, letting nothing out -/
def Cal (P : Program) (w : World) (K : PySem.W.Frag) (mg : Str → Option Value) (base : Heap) (k : Nat) (nm : Str) (ps : List Str) (sp : Sp) : Prop :=
  ∃ (f : Addr) (fd : FuncData), FnOk P w K mg base CX0 k f fd ps sp ∧ mg nm = some (.ref f) ∧ PySem.W.keepIn K (.ref f) = true ∧ Binds K fd ps []
theorem Cal.mono {P : Program} {w : World} {K : PySem.W.Frag} {mg : Str → Option Value} {base : Heap} {j k : Nat} {nm : Str} {ps : List Str} {sp : Sp} (c : Cal P w K mg base j nm ps sp) (h : j ≤ k) : Cal P w K mg base k nm ps sp := by
  obtain ⟨f, fd, a, b, d, e⟩ := c
  exact ⟨f, fd, a.mono h, b, d, e⟩
section
variable {X : Cx} {k : Nat} {nm : Str} {ps : List Str} {sp : Sp} {e : Expr} {es : List Expr} {t : TA} {p pos : Pos}
theorem pe_callC (c : Cal X.prog X.w X.K X.mg X.base k nm ps sp) (hr : Room k X.A) (hg : Gl X nm) (ha : PA X (e :: es) t) (hdb : (nm == ("__debug__" : Str)) = false := by decide)
    (he : starEach (e :: es) X.env = (false, eval e X.env) :: starEach es X.env := by rfl) (hpl : (backTo pos (starEach es X.env)).any (·.1) = false := by rfl) :
    PE X (.Call (.Name nm p) (e :: es) [] pos) (tCall sp [] E0 t) := by
  obtain ⟨f, fd, a, b, d, g⟩ := c
  exact pe_call a hr hg b d g .nil pass0 ha hdb he hpl
theorem pe_callC0 (c : Cal X.prog X.w X.K X.mg X.base k nm ps sp) (hr : Room k X.A) (hg : Gl X nm) (hdb : (nm == ("__debug__" : Str)) = false := by decide) :
    PE X (.Call (.Name nm p) [] [] pos) (tCall sp [] E0 tNil) := by
  obtain ⟨f, fd, a, b, d, g⟩ := c
  exact pe_call0 a hr hg b d g .nil pass0 hdb
end
/-! ### rules with the written part by its name (a comprehension's block has the same one) -/
section
variable {X : Cx} (K : PySem.W.Frag)
theorem ix_listK (h : X.K = K) : IxR X (rIxL K) := by subst h; exact ix_list
theorem ix_tupK (h : X.K = K) : IxR X (rIxT K) := by subst h; exact ix_tup
theorem ix_seqK (h : X.K = K) : IxR X (rIx K) := by subst h; exact ix_seq
def rLenK (K : PySem.W.Frag) : List V → Hp → VK → Prop := fun xs H Q => ∃ p ys, xs = [.ref p] ∧ (SqL K H p ys ∨ SqT K H p ys) ∧ Q (.int ys.length) H
theorem call_lenK (h : X.K = K) : CallR X (.builtin "len") (rLenK K) := by subst h; exact call_len_seq
def rListK (K : PySem.W.Frag) : List V → Hp → VK → Prop := fun xs H Q => ∃ p ys, xs = [.ref p] ∧ (SqL K H p ys ∨ SqT K H p ys) ∧ ∀ l, H l = none → Q (.ref l) (upd H l (.lst ys))
theorem call_listK (h : X.K = K) : CallR X (.type "list") (rListK K) := by subst h; exact call_list_of
theorem call_isiK1 (h : X.K = K) : CallR X (.builtin "isinstance") (rIsi K) := by subst h; exact call_isi
theorem call_isiTK (h : X.K = K) : CallR X (.builtin "isinstance") (rIsiT K) := by subst h; exact call_isiT
theorem op_inK (h : X.K = K) : OpR X (compareOp .In) (rIn K false) := by subst h; exact op_in_seq
theorem op_notInK (h : X.K = K) : OpR X (compareOp .NotIn) (rIn K true) := by subst h; exact op_notIn_seq
theorem op_eqDK (h : X.K = K) (hu : X.A.units + 64 < cLine) : OpR X (compareOp .Eq) (rEqD K) := by subst h; exact op_eqD hu
theorem op_neDK (h : X.K = K) (hu : X.A.units + 64 < cLine) : OpR X (compareOp .NotEq) (rNeD K) := by subst h; exact op_neD hu
theorem sl_listK (h : X.K = K) : SlR X (rSlL K) := by subst h; exact sl_list
theorem cr_allK (h : X.K = K) (hc : X.calm = true) : CallR X (.builtin "all") (rAll K) := by subst h; exact cr_all hc
variable {o e : Expr} {es : List Expr} {to : TE} {t : TA} {name : Str} {apos cpos : Pos} {T id : String} {r : V → List V → Hp → VK → Prop}
theorem pe_bm0K (h : X.K = K) (pa : PlainAttrs T) (slot : Slot T name id) (hty : typeOf (.builtin id) = pure (.type "method_descriptor")) (hm : MtR X id r) (ho : PE X o to)
    (hbase : attributeBase o name X.env (eval o X.env) = eval o X.env := by rfl) (hline : (apos.endLine == cpos.line) = true := by rfl) : PE X (.Call (.Attribute o name apos) [] [] cpos) (tBM0 K T r to) := by
  subst h; exact pe_bm0 pa slot hty hm ho hbase hline
theorem pe_bmK (h : X.K = K) (pa : PlainAttrs T) (slot : Slot T name id) (hty : typeOf (.builtin id) = pure (.type "method_descriptor")) (hm : MtR X id r) (ho : PE X o to) (ha : PA X (e :: es) t)
    (hbase : attributeBase o name X.env (eval o X.env) = eval o X.env := by rfl)
    (hfew : ((backTo cpos (starEach (e :: es) X.env)).all (fun x => !x.1) && (backToKw cpos (keywordEach [] X.env)).all (fun x => x.1.isSome)
      && decide ((e :: es).length + ([] : List Keyword).length + (if ([] : List Keyword).isEmpty then 0 else 1) < 30)) = true := by rfl)
    (hline : (apos.endLine == cpos.line) = true := by rfl) (hs : starEach (e :: es) X.env = (false, eval e X.env) :: starEach es X.env := by rfl) (hplain : (backTo cpos (starEach es X.env)).any (·.1) = false := by rfl) :
    PE X (.Call (.Attribute o name apos) (e :: es) [] cpos) (tBM K T r to t) := by
  subst h; exact pe_bm pa slot hty hm ho ha hbase hfew hline hs hplain
variable {tg l : Expr} {tl : TE}
theorem pi_listK (h : X.K = K) (hl : PE X l tl) : PI X tg l (iList K tl) := by subst h; exact pi_list hl
theorem pi_tupK (h : X.K = K) (hl : PE X l tl) : PI X tg l (iTup K tl) := by subst h; exact pi_tup hl
end
/-- behind a statement: what its ways have in common -/
theorem seq_by {t u : TS} {D : Ends} {σ : L2.St} {H : Hp} (J : L2.St → Hp → Prop) (h2 : ∀ σ1 H1, J σ1 H1 → u D σ1 H1) (h1 : (∀ σ1 H1, J σ1 H1 → u D σ1 H1) → t { D with nx := u D } σ H) : tSeq t u D σ H := h1 h2
theorem if_by {c : TT} {t1 t2 u : TS} {D : Ends} {σ : L2.St} {H : Hp} (J : L2.St → Hp → Prop) (h2 : ∀ σ1 H1, J σ1 H1 → u D σ1 H1) (h1 : (∀ σ1 H1, J σ1 H1 → u D σ1 H1) → tIfS c t1 t2 { D with nx := u D } σ H) : tSeq (tIfS c t1 t2) u D σ H := h1 h2
theorem asg_by {te : TE} {i : Nat} {u : TS} {D : Ends} {σ : L2.St} {H : Hp} (J : V → Hp → Prop) (h2 : ∀ v H1, J v H1 → u D (σ.set i (some v)) H1) (h1 : (∀ v H1, J v H1 → u D (σ.set i (some v)) H1) → te σ H (fun x H1 => gName i x σ H1 (u D))) : tSeq (tAsg te (gName i)) u D σ H := h1 h2
theorem name_by {i : Nat} {v : V} {σ : L2.St} {H : Hp} {Q : L2.St → Hp → Prop} (h : Q (σ.set i (some v)) H) : gName i v σ H Q := h
/-! ### heaps -/
theorem same_upd {H : Hp} {p : Addr} {o : HO} (h : H p = none) : Same H (upd H p o) := fun b x e => by
  rw [upd_ne (ne_of_none e h)]
  exact e
/-- an object that was not there ahead may change -/
theorem same_mut {H H' : Hp} {p : Addr} {o : HO} (e : Same H H') (h : H p = none) : Same H (upd H' p o) := fun b x q => by
  rw [upd_ne (ne_of_none q h)]
  exact e b x q
/-- all but what stands at b stays -/
def Mv (b : Addr) (H H' : Hp) : Prop := ∀ a o, a ≠ b → H a = some o → H' a = some o
theorem Mv.refl (b : Addr) (H : Hp) : Mv b H H := fun _ _ _ h => h
theorem Mv.trans {b : Addr} {H H1 H2 : Hp} (x : Mv b H H1) (y : Mv b H1 H2) : Mv b H H2 := fun a o n h => y a o n (x a o n h)
theorem Mv.of {b : Addr} {H H' : Hp} (s : Same H H') : Mv b H H' := fun a o _ h => s a o h
theorem Mv.upd {b : Addr} {H H' : Hp} {o : HO} (x : Mv b H H') : Mv b H (upd H' b o) := fun a u n h => by
  rw [upd_ne n]
  exact x a u n h
theorem Mv.none {b p : Addr} {H H' : Hp} (x : Mv b H H') (n : p ≠ b) (h : H' p = none) : H p = none := by
  cases q : H p with
  | none => rfl
  | some o =>
    rw [x p o n q] at h
    cases h
/-! ### the bag: b.1 the bag, b.2 its numbers -/
def bagL (s : Addr) (i r x c : Int) : List V := [.ref s, .int i, .int r, .int x, .int c]
def Bag (b : Addr × Addr) (H : Hp) : Prop := ∃ (ns : List Int) (i r x c : Int), H b.1 = some (.lst (bagL b.2 i r x c)) ∧ H b.2 = some (.lst (ns.map V.int)) ∧ b.2 ≠ b.1 ∧ 0 ≤ i ∧ 0 ≤ x ∧ x < 2147483648
theorem Bag.same {b : Addr × Addr} {H H' : Hp} (g : Bag b H) (s : Same H H') : Bag b H' := by
  obtain ⟨ns, i, r, x, c, h1, h2, h3, h4, h5, h6⟩ := g
  exact ⟨ns, i, r, x, c, s _ _ h1, s _ _ h2, h3, h4, h5, h6⟩
theorem Bag.ne {b : Addr × Addr} {p : Addr} {H : Hp} (g : Bag b H) (h : H p = none) : p ≠ b.1 := by
  obtain ⟨ns, i, r, x, c, h1, _⟩ := g
  exact fun z => by rw [z, h1] at h; cases h
theorem Bag.ne2 {b : Addr × Addr} {p : Addr} {H : Hp} (g : Bag b H) (h : H p = none) : p ≠ b.2 := by
  obtain ⟨ns, i, r, x, c, _, h1, _⟩ := g
  exact fun z => by rw [z, h1] at h; cases h
theorem Bag.upd {b : Addr × Addr} {p : Addr} {o : HO} {H : Hp} (g : Bag b H) (h1 : p ≠ b.1) (h2 : p ≠ b.2) : Bag b (L2.upd H p o) := by
  obtain ⟨ns, i, r, x, c, e1, e2, h3⟩ := g
  exact ⟨ns, i, r, x, c, by rw [upd_ne h1.symm]; exact e1, by rw [upd_ne h2.symm]; exact e2, h3⟩
/-- a draw: its bag, its bound -/
def spPick : Sp := fun vs H Q _ => ∃ (b : Addr × Addr) (top : Int), vs = [.ref b.1, .int top] ∧ Bag b H ∧ 0 < top ∧ top < 1073741824 ∧ ∀ (H' : Hp) (d : Int), Mv b.1 H H' → Bag b H' → 0 ≤ d → d < top → Q (.int d) H'
/-- the bag of a script -/
def spBag (K : PySem.W.Frag) : Sp := fun vs H Q _ => ∃ (a : Addr) (ns : List Int), vs = [.ref a] ∧ SqL K H a (ns.map V.int) ∧ ∀ (H' : Hp) (b : Addr × Addr), Same H H' → H b.1 = none → Bag b H' → Q (.ref b.1) H'
/-- one of the list's things -/
def spOf (K : PySem.W.Frag) : Sp := fun vs H Q _ => ∃ (b : Addr × Addr) (l : Addr) (xs : List V), vs = [.ref b.1, .ref l] ∧ Bag b H ∧ l ≠ b.1 ∧ H l = some (.lst xs) ∧ 0 < xs.length ∧ xs.length < 1000 ∧ ∀ (H' : Hp) (v : V), Mv b.1 H H' → Bag b H' → v ∈ xs → Q v H'
section
variable {K : PySem.W.Frag}
def tyN : PyData → String
  | .none => "NoneType"
  | .bool _ => "bool"
  | .int _ => "int"
  | .str _ => "str"
  | .list _ => "list"
  | .tuple _ => "tuple"
  | .dict _ => "dict"
theorem ty_dp {H : Hp} {x : V} {d : PyData} (h : Dp K H x d) : TyX K H x (.type (tyN d)) := by
  cases h with
  | non => exact .base .non
  | bl b => exact .base (.bl b)
  | int i => exact .base (.int i)
  | str x => exact .base (.str x)
  | lst hs _ =>
    rcases hs with (h | ⟨o, h⟩) | ⟨o, its, n, h1, h2, _⟩
    · exact .base (.lst h)
    · exact .base (.frz h)
    · exact .kList h1 h2
  | tup hs _ =>
    rcases hs with (h | ⟨o, h⟩) | ⟨o, its, n, h1, h2, _⟩
    · exact .base (.tup h)
    · exact .fTuple h
    · exact .kTuple h1 h2
theorem same_t {H H' : Hp} {a : Addr} {xs : List V} (e : Same H H') (h : SqT K H a xs) : SqT K H' a xs := by
  rcases h with (h | ⟨o, h⟩) | h
  · exact .inl (.inl (e _ _ h))
  · exact .inl (.inr ⟨o, e _ _ h⟩)
  · exact .inr h
mutual
theorem dp_same {H H' : Hp} (e : Same H H') : ∀ {d : PyData} {x : V}, Dp K H x d → Dp K H' x d
  | _, _, .non => .non
  | _, _, .bl b => .bl b
  | _, _, .int i => .int i
  | _, _, .str s => .str s
  | _, _, .lst hs ha => .lst (e.seq hs) (dpa_same e ha)
  | _, _, .tup hs ha => .tup (same_t e hs) (dpa_same e ha)
theorem dpa_same {H H' : Hp} (e : Same H H') : ∀ {ds : List PyData} {xs : List V}, DpAll K H xs ds → DpAll K H' xs ds
  | _, _, .nil => .nil
  | _, _, .cons h t => .cons (dp_same e h) (dpa_same e t)
end
theorem dpa_len {H : Hp} : ∀ {xs : List V} {ds : List PyData}, DpAll K H xs ds → xs.length = ds.length
  | _, _, .nil => rfl
  | _, _, .cons _ t => congrArg (· + 1) (dpa_len t)
theorem dpa_get {H : Hp} : ∀ {xs : List V} {ds : List PyData} {i : Nat} {d : PyData}, DpAll K H xs ds → ds[i]? = some d → ∃ x, xs[i]? = some x ∧ Dp K H x d
  | _, _, _, _, .nil, e => by simp at e
  | _, _, 0, _, .cons h _, e => by simp at e; subst e; exact ⟨_, rfl, h⟩
  | _, _, i + 1, d, .cons _ t, e => by
    obtain ⟨x, h1, h2⟩ := dpa_get (i := i) (d := d) t (by simpa using e)
    exact ⟨x, by simpa using h1, h2⟩
/-- data of at most so many levels -/
def Dn : Nat → PyData → Prop
  | 0, _ => False
  | n + 1, d => (∃ b, d = .bool b) ∨ (∃ i, d = .int i) ∨ (∃ s, d = .str s) ∨ d = .none ∨ ∃ ds, (d = .list ds ∨ d = .tuple ds) ∧ ds.length ≤ 100000 ∧ ∀ e ∈ ds, Dn n e
def spSame (K : PySem.W.Frag) (n : Nat) : Sp := fun vs H Q _ => ∃ (x y : V) (d : PyData), vs = [x, y] ∧ Dp K H x d ∧ Dp K H y d ∧ Dn n d ∧ SeqAt.shaped d = true ∧ ∀ H', Same H H' → Q (.bl true) H'
theorem tYes_by {σ : L2.St} {H : Hp} {Q : Bool → Hp → Prop} (h : Q true H) : tYes σ H Q := h
theorem canLay_mem : ∀ {ds : List PyData} {e : PyData}, e ∈ ds → PyData.canLayAll0 ds = true → PyData.canLay0 e = true
  | d :: ds, e, hm, h => by
    have h : (PyData.canLay0 d && PyData.canLayAll0 ds) = true := h
    rw [Bool.and_eq_true] at h
    rcases List.mem_cons.mp hm with rfl | hm
    · exact h.1
    · exact canLay_mem hm h.2
theorem depth_mem : ∀ {ds : List PyData} {e : PyData}, e ∈ ds → PyData.depth e ≤ PyData.depthAll ds
  | d :: ds, e, hm => by
    show _ ≤ max (PyData.depth d) (PyData.depthAll ds)
    rcases List.mem_cons.mp hm with rfl | hm
    · exact Nat.le_max_left _ _
    · exact Nat.le_trans (depth_mem hm) (Nat.le_max_right _ _)
theorem shaped_mem {ds : List PyData} {e : PyData} (hm : e ∈ ds) (h : SeqAt.shaped (.list ds) = true ∨ SeqAt.shaped (.tuple ds) = true) : SeqAt.shaped e = true := by
  have k : PyData.canLayAll0 ds = true ∧ PyData.depthAll ds + 1 ≤ 64 := by
    rcases h with h | h
    · exact ⟨SeqAt.canLay_of_shaped h, SeqAt.depth_of_shaped h⟩
    · exact ⟨SeqAt.canLay_of_shaped h, SeqAt.depth_of_shaped h⟩
  unfold SeqAt.shaped
  rw [Bool.and_eq_true]
  exact ⟨canLay_mem hm k.1, decide_eq_true (by have := depth_mem hm; omega)⟩
theorem ifT {A B : Prop} {b : Bool} (e : b = true) (h : A) : if b = true then A else B := by rw [if_pos e]; exact h
theorem ifF {A B : Prop} {b : Bool} (e : b = false) (h : B) : if b = true then A else B := by rw [e]; exact iteF h
end
end WB
namespace WB
open PySem PySem.Spec PyProof.Rows L2
section
variable {K : PySem.W.Frag}
theorem for_enumK {a : Addr} {xs : List V} {g : TG} {tb : TS} {D : Ends} {σ : L2.St} {H : Hp} (Pv : Nat → L2.St → Hp → Prop) (h0 : Pv 0 σ H) (hl : ∀ i σ H, i ≤ xs.length → Pv i σ H → SqL K H a xs)
    (hs : ∀ i x T σ H, xs[i]? = some x → Pv i σ H → H T = none → g (.ref T) σ (upd H T (.tup [.int (i : Nat), x])) fun σ2 H2 => tb { D with nx := Pv (i + 1), ct := Pv (i + 1), bk := D.nx } σ2 H2) (hd : ∀ σ H, Pv xs.length σ H → D.nx σ H) :
    ∃ W : Nat → Nat → L2.St → Hp → Prop, (∃ m, W 0 m σ H) ∧ ∀ i m σ H, W i m σ H →
      ((Ite K a).stop i H ∧ D.nx σ H) ∨ ((Ite K a).go i H ∧ ∃ N : L2.St → Hp → Prop, (∀ σ' H', N σ' H' → ∃ m', m' < m ∧ W (i + 1) m' σ' H') ∧ ∀ x H', (Ite K a).yld i H x H' → g x σ H' fun σ2 H2 => tb { D with nx := N, ct := N, bk := D.nx } σ2 H2) := by
  refine ⟨fun i m σ H => m = xs.length - i ∧ i ≤ xs.length ∧ Pv i σ H, ⟨xs.length, by simp, Nat.zero_le _, h0⟩, ?_⟩
  rintro i m σ H ⟨rfl, hi, p⟩
  have q := hl i σ H hi p
  by_cases hlt : i < xs.length
  · refine .inr ⟨⟨xs, xs[i], q, by simp [hlt]⟩, Pv (i + 1), fun σ' H' p' => ⟨xs.length - (i + 1), by omega, rfl, hlt, p'⟩, fun x H' y => ?_⟩
    obtain ⟨T, z, rfl, nT, rfl, y⟩ := y
    exact hs i z T σ H (y xs q) p nT
  · have e : i = xs.length := by omega
    subst e
    exact .inl ⟨⟨xs, q, Nat.le_refl _⟩, hd σ H p⟩
end
/-! ### bits, numbers in bits, seals: the mathematics -/
def Bits (ns : List Int) : Prop := ∀ z ∈ ns, z = 0 ∨ z = 1
/-- a number in so many bits, the one of greatest worth first -/
def wr : Nat → Int → List Int
  | 0, _ => []
  | i + 1, n => ((n / 2 ^ i) % 2) :: wr i n
theorem wr_len : ∀ (i : Nat) (n : Int), (wr i n).length = i
  | 0, _ => rfl
  | i + 1, n => congrArg (· + 1) (wr_len i n)
theorem wr_bits : ∀ (i : Nat) (n : Int), Bits (wr i n)
  | 0, _ => fun z h => nomatch h
  | i + 1, n => fun z h => by
    rcases List.mem_cons.mp h with rfl | h
    · omega
    · exact wr_bits i n z h
theorem half (n : Int) (i : Nat) : n / 2 ^ i / 2 = n / 2 ^ (i + 1) := by
  rw [Int.pow_succ, Int.ediv_ediv_of_nonneg (by exact Int.pow_nonneg (by decide))]
/-- the register: one more bit -/
def stepR (c : Nat) (b : Int) : Nat := if ((c / 32768 : Nat) : Int) = b then c * 2 % 65536 else (c * 2 % 65536) ^^^ 4129
theorem stepR_lt (c : Nat) (b : Int) : stepR c b < 65536 := by
  unfold stepR
  have h : c * 2 % 65536 < 65536 := Nat.mod_lt _ (by decide)
  split
  · exact h
  · exact Nat.xor_lt_two_pow (n := 16) h (by decide)
def regs (bs : List Int) : Nat := bs.foldl stepR 65535
theorem regs_lt (bs : List Int) : regs bs < 65536 := by
  have : ∀ (l : List Int) (c : Nat), c < 65536 → l.foldl stepR c < 65536 := by
    intro l
    induction l with
    | nil => exact fun c h => h
    | cons b r ih => exact fun c _ => ih _ (stepR_lt c b)
  exact this bs 65535 (by decide)
def sealL (bs : List Int) : List Int := wr 16 (regs bs : Nat)
theorem take_more {α : Type} {l : List α} {i : Nat} {x : α} (h : l[i]? = some x) : l.take (i + 1) = l.take i ++ [x] := by
  rw [List.take_add_one, h]
  rfl
theorem regs_more {bs : List Int} {i : Nat} {b : Int} (h : bs[i]? = some b) : regs (bs.take (i + 1)) = stepR (regs (bs.take i)) b := by
  unfold regs
  rw [take_more h, List.foldl_append]
  rfl
theorem wr_at (c : Nat) (i : Nat) : ((c : Int) / 2 ^ i) % 2 = if c.testBit i then 1 else 0 := by
  have e : ((c : Int) / 2 ^ i) % 2 = ((c / 2 ^ i % 2 : Nat) : Int) := by
    rw [Int.natCast_emod, Int.natCast_ediv, Int.natCast_pow]
    rfl
  rw [e, Nat.testBit_eq_decide_div_mod_eq]
  have h : c / 2 ^ i % 2 < 2 := Nat.mod_lt _ (by decide)
  by_cases h1 : c / 2 ^ i % 2 = 1
  · rw [h1]; rfl
  · have h0 : c / 2 ^ i % 2 = 0 := by omega
    rw [h0]; rfl
def holdsB (ns : List Int) : Bool := decide (16 ≤ ns.length) && decide (sealL (ns.take (ns.length - 16)) = ns.drop (ns.length - 16))
theorem wr_shift (c : Nat) : wr 16 ((c * 2 % 65536 : Nat) : Int) = (wr 16 (c : Int)).drop 1 ++ [0] := by
  have e : ((c * 2 % 65536 : Nat) : Int) = (c : Int) * 2 % 65536 := by rw [Int.natCast_emod, Int.natCast_mul]; rfl
  rw [e]
  generalize (c : Int) = z
  simp only [wr, List.drop, List.cons_append, List.nil_append, List.cons.injEq, and_true]
  refine ⟨?_, ?_, ?_, ?_, ?_, ?_, ?_, ?_, ?_, ?_, ?_, ?_, ?_, ?_, ?_, ?_⟩ <;> omega
def fl (M : List Int) (k : Nat) : List Int := M.set k (1 - M.getD k 0)
theorem wr_flip (a : Nat) : wr 16 ((a ^^^ 4129 : Nat) : Int) = fl (fl (fl (wr 16 (a : Int)) 3) 10) 15 := by
  simp only [wr, wr_at, Nat.testBit_xor, fl]
  simp only [List.set, List.getD, List.getElem?_cons_succ, List.getElem?_cons_zero, Option.getD]
  have h : ∀ i : Nat, (if ((a.testBit i) ^^ true) = true then (1 : Int) else 0) = 1 - (if a.testBit i = true then 1 else 0) := by
    intro i
    cases a.testBit i <;> rfl
  have t0 : (4129 : Nat).testBit 0 = true := by decide
  have t5 : (4129 : Nat).testBit 5 = true := by decide
  have t12 : (4129 : Nat).testBit 12 = true := by decide
  have n1 : (4129 : Nat).testBit 1 = false := by decide
  have n2 : (4129 : Nat).testBit 2 = false := by decide
  have n3 : (4129 : Nat).testBit 3 = false := by decide
  have n4 : (4129 : Nat).testBit 4 = false := by decide
  have n6 : (4129 : Nat).testBit 6 = false := by decide
  have n7 : (4129 : Nat).testBit 7 = false := by decide
  have n8 : (4129 : Nat).testBit 8 = false := by decide
  have n9 : (4129 : Nat).testBit 9 = false := by decide
  have n10 : (4129 : Nat).testBit 10 = false := by decide
  have n11 : (4129 : Nat).testBit 11 = false := by decide
  have n13 : (4129 : Nat).testBit 13 = false := by decide
  have n14 : (4129 : Nat).testBit 14 = false := by decide
  have n15 : (4129 : Nat).testBit 15 = false := by decide
  simp only [t0, t5, t12, n1, n2, n3, n4, n6, n7, n8, n9, n10, n11, n13, n14, n15, Bool.xor_false, h]
/-- data of ints -/
def dI (ns : List Int) : PyData := .list (ns.map PyData.int)
theorem dpa_ints {K : PySem.W.Frag} {H : Hp} : ∀ ns : List Int, DpAll K H (ns.map V.int) (ns.map PyData.int)
  | [] => .nil
  | n :: r => .cons (.int n) (dpa_ints r)
theorem dp_ints {K : PySem.W.Frag} {H : Hp} {a : Addr} {ns : List Int} (h : SqL K H a (ns.map V.int)) : Dp K H (.ref a) (dI ns) := .lst h (dpa_ints ns)
theorem depth_ints : ∀ ns : List Int, PyData.depthAll (ns.map PyData.int) = 0
  | [] => rfl
  | n :: r => by
    show max 0 (PyData.depthAll (r.map PyData.int)) = 0
    rw [depth_ints r]
    rfl
theorem canLay_ints : ∀ ns : List Int, PyData.canLayAll0 (ns.map PyData.int) = true
  | [] => rfl
  | n :: r => by
    show (true && PyData.canLayAll0 (r.map PyData.int)) = true
    rw [canLay_ints r]
    rfl
theorem shaped_ints (ns : List Int) : SeqAt.shaped (dI ns) = true := by
  unfold SeqAt.shaped
  rw [Bool.and_eq_true]
  refine ⟨canLay_ints ns, decide_eq_true ?_⟩
  show PyData.depthAll (ns.map PyData.int) + 1 ≤ 64
  rw [depth_ints]
  decide
theorem eqv_ints (ns ms : List Int) : PyData.eqv (dI ns) (dI ms) = decide (ns = ms) := by
  have : ∀ (ns ms : List Int), PyData.eqvAll (ns.map PyData.int) (ms.map PyData.int) = decide (ns = ms) := by
    intro ns
    induction ns with
    | nil =>
      intro ms
      cases ms with
      | nil => rfl
      | cons m r => rfl
    | cons n r ih =>
      intro ms
      cases ms with
      | nil => rfl
      | cons m t =>
        show (PyData.eqv (.int n) (.int m) && PyData.eqvAll (r.map PyData.int) (t.map PyData.int)) = _
        rw [ih t]
        show ((n == m) && decide (r = t)) = _
        rw [show (n == m) = decide (n = m) from by rw [Bool.beq_eq_decide_eq], ← Bool.decide_and]
        exact decide_eq_decide.mpr ⟨fun h => by rw [h.1, h.2], fun h => List.cons.inj h⟩
  exact this ns ms
/-! ### what a law knows of the heap: the bag at b, and these -/
structure SH (b : Addr × Addr) (H : Hp) (L : List (Addr × HO)) : Prop where
  bag : Bag b H
  nb : ∀ p ∈ L, p.1 ≠ b.1 ∧ p.1 ≠ b.2
  kn : ∀ p ∈ L, H p.1 = some p.2
section
variable {b : Addr × Addr} {p : Addr} {H H' : Hp} {L L' : List (Addr × HO)} {o o' : HO}
theorem SH.same (h : SH b H L) (s : Same H H') : SH b H' L := ⟨h.bag.same s, h.nb, fun q hq => s _ _ (h.kn q hq)⟩
theorem SH.mv (h : SH b H L) (m : Mv b.1 H H') (g : Bag b H') : SH b H' L := ⟨g, h.nb, fun q hq => m _ _ (h.nb q hq).1 (h.kn q hq)⟩
theorem SH.add (h : SH b H L) (n : p ≠ b.1) (n2 : p ≠ b.2) (e : H p = some o) : SH b H ((p, o) :: L) :=
  ⟨h.bag, fun q hq => (List.mem_cons.mp hq).elim (fun z => by rw [z]; exact ⟨n, n2⟩) (h.nb q), fun q hq => (List.mem_cons.mp hq).elim (fun z => by rw [z]; exact e) (h.kn q)⟩
theorem SH.new (h : SH b H L) (n : H p = none) : SH b (upd H p o) ((p, o) :: L) := (h.same (same_upd n)).add (h.bag.ne n) (h.bag.ne2 n) upd_same
theorem SH.newS (h : SH b H L) (s : Same H H') (n : H p = none) (e : H' p = some o) : SH b H' ((p, o) :: L) := (h.same s).add (h.bag.ne n) (h.bag.ne2 n) e
theorem SH.newM (h : SH b H L) (m : Mv b.1 H H') (g : Bag b H') (n : H p = none) (e : H' p = some o) : SH b H' ((p, o) :: L) := (h.mv m g).add (h.bag.ne n) (h.bag.ne2 n) e
theorem SH.sub (h : SH b H L) (hs : ∀ q ∈ L', q ∈ L) : SH b H L' := ⟨h.bag, fun q hq => h.nb q (hs q hq), fun q hq => h.kn q (hs q hq)⟩
theorem SH.get (h : SH b H L) (hm : (p, o) ∈ L) : H p = some o := h.kn _ hm
theorem SH.ne (h : SH b H L) (hm : (p, o) ∈ L) : p ≠ b.1 := (h.nb _ hm).1
/-- the first of them is written; the others stand elsewhere -/
theorem SH.put (h : SH b H ((p, o) :: L)) (hd : ∀ q ∈ L, q.1 ≠ p) : SH b (upd H p o') ((p, o') :: L) :=
  ⟨h.bag.upd (h.nb _ (.head _)).1 (h.nb _ (.head _)).2, fun q hq => (List.mem_cons.mp hq).elim (fun z => by rw [z]; exact h.nb (p, o) (.head L)) (fun hq => h.nb q (.tail _ hq)),
    fun q hq => (List.mem_cons.mp hq).elim (fun z => by rw [z]; exact upd_same) (fun hq => by rw [upd_ne (hd q hq)]; exact h.kn q (.tail _ hq))⟩
theorem SH.apart (h : SH b H L) (n : H p = none) : ∀ q ∈ L, q.1 ≠ p := fun q hq => ne_of_none (h.kn q hq) n
theorem SH.nil (g : Bag b H) : SH b H [] := ⟨g, (fun _ h => absurd h List.not_mem_nil), (fun _ h => absurd h List.not_mem_nil)⟩
end
theorem bits_nil : Bits [] := fun _ h => nomatch h
theorem bits_app {a c : List Int} (h : Bits a) (h' : Bits c) : Bits (a ++ c) := fun z hz => (List.mem_append.mp hz).elim (h z) (h' z)
theorem bits_one {z : Int} (h : z = 0 ∨ z = 1) : Bits [z] := fun y hy => by rw [List.mem_singleton.mp hy]; exact h
theorem bits_take {a : List Int} (h : Bits a) (n : Nat) : Bits (a.take n) := fun z hz => h z (List.mem_of_mem_take hz)
theorem bits_drop {a : List Int} (h : Bits a) (n : Nat) : Bits (a.drop n) := fun z hz => h z (List.mem_of_mem_drop hz)
theorem seal_bits (ns : List Int) : Bits (sealL ns) := wr_bits _ _
theorem seal_len (ns : List Int) : (sealL ns).length = 16 := wr_len _ _
theorem cut_to_n (xs : List V) (n : Nat) : cutV xs none (some (n : Int)) = xs.take n := by
  unfold cutV
  rw [HT.sIx_none, HT.sIx_nat, List.drop_zero, Nat.sub_zero]
  by_cases h : n ≤ xs.length
  · rw [Nat.min_eq_left h]
  · rw [Nat.min_eq_right (by omega), List.take_of_length_le (Nat.le_refl _), List.take_of_length_le (by omega)]
theorem cut_from_n (xs : List V) (n : Nat) : cutV xs (some (n : Int)) none = xs.drop n := by
  unfold cutV
  rw [HT.sIx_none, HT.sIx_nat]
  by_cases h : n ≤ xs.length
  · rw [Nat.min_eq_left h]
    exact List.take_of_length_le (by simp)
  · rw [Nat.min_eq_right (by omega), List.drop_of_length_le (Nat.le_refl _), List.drop_of_length_le (by omega)]
    exact List.take_nil
theorem sIx_back (l d n : Nat) (h : 0 < n) : HT.sIx l d (some (-(n : Int))) = l - n := by
  show (if -(n : Int) < 0 then (-(n : Int) + (l : Int)).toNat else min (-(n : Int)).toNat l) = l - n
  rw [if_pos (by omega)]
  omega
theorem cut_to_b (xs : List V) (n : Nat) (h : 0 < n) : cutV xs none (some (-(n : Int))) = xs.take (xs.length - n) := by
  unfold cutV
  rw [HT.sIx_none, sIx_back _ _ n h, List.drop_zero, Nat.sub_zero]
theorem cut_from_b (xs : List V) (n : Nat) (h : 0 < n) : cutV xs (some (-(n : Int))) none = xs.drop (xs.length - n) := by
  unfold cutV
  rw [HT.sIx_none, sIx_back _ _ n h]
  exact List.take_of_length_le (by simp)
theorem sz4 {n : Nat} (h : n ≤ 100000) : n ≤ sizeLine := Nat.le_trans h (by decide)
theorem sz4l {n : Nat} (h : n < 100000) : n < sizeLine := Nat.lt_of_lt_of_le h (by decide)
theorem holds_sealed {ns : List Int} : holdsB (ns ++ sealL ns) = true := by
  unfold holdsB
  have l : (ns ++ sealL ns).length = ns.length + 16 := by rw [List.length_append, seal_len]
  rw [l, Nat.add_sub_cancel, List.take_left, List.drop_left]
  simp
theorem holds_short {ns : List Int} (h : ns.length < 16) : holdsB ns = false := by
  unfold holdsB
  rw [decide_eq_false (by omega), Bool.false_and]
theorem inV_ints (z : Int) : ∀ ks : List Int, inV (.int z) (ks.map V.int) = decide (z ∈ ks)
  | [] => rfl
  | k :: r => by
    show ((k == z) || inV (.int z) (r.map V.int)) = _
    rw [inV_ints z r]
    by_cases h : z = k
    · subst h
      simp
    · have h2 : (k == z) = false := by simpa using fun e => h e.symm
      rw [h2, Bool.false_or]
      exact decide_eq_decide.mpr ⟨fun hm => .tail _ hm, fun hm => (List.mem_cons.mp hm).elim (fun e => absurd e h) (fun e => e)⟩
def isB (b : Int) : Prop := b = 0 ∨ b = 1
theorem bits_cons {b : Int} {r : List Int} (h : Bits (b :: r)) : isB b ∧ Bits r := ⟨h b (.head _), fun z hz => h z (.tail _ hz)⟩
theorem getI {ns : List Int} {i : Nat} {y : V} (h : (ns.map V.int)[i]? = some y) : ∃ z, ns[i]? = some z ∧ y = V.int z := by
  rw [List.getElem?_map] at h
  cases e : ns[i]? with
  | none => rw [e] at h; cases h
  | some z => rw [e] at h; exact ⟨z, rfl, (Option.some.inj h).symm⟩
end WB
namespace WB
open PySem PySem.Spec PyProof.Rows L2
/-! ### a class's own function, called by the class: C.m(e, ..) -/
structure ClsFn (K : PySem.W.Frag) (mg : Str → Option Value) (x m : Str) (C f : Addr) : Prop where
  gC : mg x = some (.ref C)
  sg : PySem.W.specialIn K (.ref C) "__getattribute__" = some (some (.builtin "type.__getattribute__"))
  ty : PySem.W.typeIn K (.ref C) = some (.type "type")
  rd : PySem.W.readsIn K C (.type "type") = true
  fc : PySem.W.findCls K (.ref C) (.type "type") m = some (.val (.ref f))
  hd : PySem.W.handedIn (.ref f) = true
  kp : PySem.W.keepIn K (.ref f) = true
section
variable {X : Cx} {CX : CXT} {k : Nat} {f C : Addr} {fd : FuncData} {ps : List Str} {sp : Sp} {E : XK} {x m : Str} {p1 p2 pos : Pos} {e : Expr} {es : List Expr} {t : TA}
theorem pe_clsfn {pl : Sem Bool} (T : ClsFn X.K X.mg x m C f) (F : FnOk X.prog X.w X.K X.mg X.base CX k f fd ps sp) (hr : Room k X.A) (hb : Binds X.K fd ps []) (hx : Passes CX X E) (hg : Gl X x) (ha : PA X (e :: es) t)
    (hc : eval (.Call (.Attribute (.Name x p1) m p2) (e :: es) [] pos) X.env = (do
      let ov ← eval (.Name x p1) X.env
      standAt p2.atName
      let (f, first) ← holding [ov] (getMethod ov m pl)
      callWith pos f first (backTo pos (starEach (e :: es) X.env)) (backToKw pos (keywordEach [] X.env))) := by rfl)
    (hdb : (x == ("__debug__" : Str)) = false := by decide) (he : starEach (e :: es) X.env = (false, eval e X.env) :: starEach es X.env := by rfl) (hpl : (backTo pos (starEach es X.env)).any (·.1) = false := by rfl) :
    PE X (.Call (.Attribute (.Name x p1) m p2) (e :: es) [] pos) (tCall sp [] E t) := by
  refine ⟨fun pins s σ H Q I h => ?_⟩
  refine PySem.W.methodCall_KW (ld_glob I hg T.gC ?_ hdb) hc
  obtain ⟨mm, fr⟩ := I.fr
  refine PySem.W.method_of_cls fr I.ok.mod.kin T.sg (PySem.W.cls_val fr I.ok.mod.kin T.ty T.rd T.fc T.hd ?_)
  show wpAny _ _ (callWith pos (Value.ref f) [] (backTo pos (starEach (e :: es) X.env)) []) _ _ _
  refine PySem.W.callWith_K (h₀ := X.base) I.ok.mod.kin T.kp (thn (ha.run pos pins _ σ H _ (I.tok _) h) fun us s1 ⟨vs, H1, I1, r, q⟩ => ⟨I1.kIn, ?_⟩) he hpl
  exact run_fn F hr hb .nil hx I1 r q
end
/-! ### own exceptions -/
/-- LineError.__init__ -/
def spLE (K : PySem.W.Frag) : Sp := fun vs H Q _ => ∃ (a C : Addr) (w t : V), vs = [.ref a, w, t] ∧ OexC K C ∧ PySem.W.findIn K (.ref C) "word" = some none ∧ H a = some (exo a C none) ∧
  ∀ d, H d = none → d ≠ a → Q .non (upd (upd H d (exd d [(("word" : Str), w)])) a (exo a C (some d)))
/-- a class below it, its name, its field -/
def spIni (K : PySem.W.Frag) (C : Addr) (nm fld : Str) : Sp := fun vs H Q _ => ∃ (a : Addr) (i : Int), vs = [.ref a, .int i] ∧ i.natAbs.log2 < 1000 ∧ H a = some (exo a C none) ∧
  ∀ d, H d = none → d ≠ a → Q .non (upd (upd (upd H d (exd d [(("word" : Str), .str nm)])) a (exo a C (some d))) d (exd d [(fld, .int i), (("word" : Str), .str nm)]))
def XcOk (P : Program) (w : World) (K : PySem.W.Frag) (mg : Str → Option Value) (base : Heap) (k : Nat) (nm : Str) (C : Addr) (sp : Sp) : Prop :=
  ∃ (fI : Addr) (fd : FuncData) (ps : List Str), OexC K C ∧ PySem.W.findIn K (.ref C) "__init__" = some (some (.ref fI)) ∧ PySem.W.typeIn K (.ref fI) = some (.type "function") ∧ FnOk P w K mg base CX0 k fI fd ps sp ∧ Binds K fd ps [] ∧ mg nm = some (.ref C)
theorem XcOk.mono {P : Program} {w : World} {K : PySem.W.Frag} {mg : Str → Option Value} {base : Heap} {j k : Nat} {nm : Str} {C : Addr} {sp : Sp} (x : XcOk P w K mg base j nm C sp) (h : j ≤ k) : XcOk P w K mg base k nm C sp := by
  obtain ⟨fI, fd, ps, a, b, c, d, e⟩ := x
  exact ⟨fI, fd, ps, a, b, c, d.mono h, e⟩
section
variable {X : Cx} {k : Nat} {nm : Str} {C : Addr} {sp : Sp} {e : Expr} {es : List Expr} {ta : TA} {p pos : Pos}
theorem pmk_c (x : XcOk X.prog X.w X.K X.mg X.base k nm C sp) (hr : Room (k + 1) X.A) (hg : Gl X nm) (ha : PA X (e :: es) ta) (hdb : (nm == ("__debug__" : Str)) = false := by decide)
    (he : starEach (e :: es) X.env = (false, eval e X.env) :: starEach es X.env := by rfl) (hpl : (backTo pos (starEach es X.env)).any (·.1) = false := by rfl) : PMk X (.Call (.Name nm p) (e :: es) [] pos) (tMkO C sp [] ta) := by
  obtain ⟨fI, fd, ps, a, b, c, d, e1, g⟩ := x
  exact pmk_oex a b c d hr e1 .nil pass0 hg g ha hdb he hpl
end
theorem mk_inner {K : PySem.W.Frag} {C : Addr} {nm fld : Str} {i : Int} {H1 : Hp} {Q : XK} (hi : i.natAbs.log2 < 1000)
    (q : ∀ H' d, Same H1 H' → H1 d = none → H' d = some (.xd [(fld, .int i), (("word" : Str), .str nm)]) → Q (.ref C) (some d) H') :
    ([V.int i] : List V).length ≤ 1000 ∧ ∀ a, H1 a = none → spIni K C nm fld (.ref a :: ([V.int i] ++ [])) (upd H1 a (exo a C none))
      (fun v H2 => v = .non ∧ ∃ (d : Addr) (fs : List (Str × V)), H2 a = some (exo a C (some d)) ∧ H2 d = some (exd d fs) ∧ H1 d = none ∧ Q (.ref C) (some d) (upd (del H2 a) d (.xd fs))) (fun _ _ _ => False) := by
  refine ⟨by show 1 ≤ 1000; decide, fun a na => ⟨a, i, rfl, hi, upd_same, fun d nd da => ⟨rfl, d, [(fld, .int i), (("word" : Str), .str nm)], ?_, upd_same, ?_, ?_⟩⟩⟩
  · rw [upd_ne da.symm, upd_same]
  · rw [upd_ne da] at nd
    exact nd
  · rw [upd_ne da] at nd
    refine q _ d (fun b o h => ?_) nd upd_same
    have hb : b ≠ d := ne_of_none h nd
    have hba : b ≠ a := ne_of_none h na
    rw [upd_ne hb, del_ne hba, upd_ne hb, upd_ne hba, upd_ne hb, upd_ne hba]
    exact h
/-! ### defs that may let an exception out -/
def CalX (P : Program) (w : World) (K : PySem.W.Frag) (mg : Str → Option Value) (base : Heap) (k : Nat) (nm : Str) (ps : List Str) (sp : Sp) : Prop :=
  ∃ (f : Addr) (fd : FuncData), FnOk P w K mg base (L2.CX P w) k f fd ps sp ∧ mg nm = some (.ref f) ∧ PySem.W.keepIn K (.ref f) = true ∧ Binds K fd ps []
theorem CalX.mono {P : Program} {w : World} {K : PySem.W.Frag} {mg : Str → Option Value} {base : Heap} {j k : Nat} {nm : Str} {ps : List Str} {sp : Sp} (c : CalX P w K mg base j nm ps sp) (h : j ≤ k) : CalX P w K mg base k nm ps sp := by
  obtain ⟨f, fd, a, b, d, e⟩ := c
  exact ⟨f, fd, a.mono h, b, d, e⟩
section
variable {X : Cx} {k : Nat} {nm : Str} {ps : List Str} {sp : Sp} {E : XK} {e : Expr} {es : List Expr} {t : TA} {p pos : Pos}
/-- where it lets nothing out -/
theorem pe_callF (c : CalX X.prog X.w X.K X.mg X.base k nm ps sp) (hr : Room k X.A) (hg : Gl X nm) (ha : PA X (e :: es) t) (hdb : (nm == ("__debug__" : Str)) = false := by decide)
    (he : starEach (e :: es) X.env = (false, eval e X.env) :: starEach es X.env := by rfl) (hpl : (backTo pos (starEach es X.env)).any (·.1) = false := by rfl) :
    PE X (.Call (.Name nm p) (e :: es) [] pos) (tCall sp [] E0 t) := by
  obtain ⟨f, fd, a, b, d, g⟩ := c
  exact pe_call a hr hg b d g .nil passL ha hdb he hpl
/-- where what it lets out is taken -/
theorem pe_callP (c : CalX X.prog X.w X.K X.mg X.base k nm ps sp) (hr : Room k X.A) (hx : Passes (L2.CX X.prog X.w) X E) (hg : Gl X nm) (ha : PA X (e :: es) t) (hdb : (nm == ("__debug__" : Str)) = false := by decide)
    (he : starEach (e :: es) X.env = (false, eval e X.env) :: starEach es X.env := by rfl) (hpl : (backTo pos (starEach es X.env)).any (·.1) = false := by rfl) :
    PE X (.Call (.Name nm p) (e :: es) [] pos) (tCall sp [] E t) := by
  obtain ⟨f, fd, a, b, d, g⟩ := c
  exact pe_call a hr hg b d g .nil hx ha hdb he hpl
end
theorem txt_fits {z : Str} {i : Int} (hz : z.length ≤ 1000) (hi : i.natAbs.log2 < 1000) : (z ++ Str.ofString (toString i)).length ≤ sizeLine := by
  have e := PySem.int_text_length_le (k := 1000) (a := i) (by decide) hi
  rw [PySem.Str.length_append, PySem.ofString_length, PySem.sizeLine_eq]
  omega
/-! ### several clauses, each with the name n (slot i) -/
def asEnds (i : Nat) (D : Ends) : Ends := ⟨fun σ' H' => D.nx (σ'.set i none) H', D.rt, fun σ' H' => D.bk (σ'.set i none) H', fun σ' H' => D.ct (σ'.set i none) H'⟩
def wManyA (K : PySem.W.Frag) (i : Nat) (Wo : WX) (D : Ends) : List (Value × (Addr → Value → Option Addr → TS)) → WX
  | [] => Wo
  | (c, ts) :: r => fun cls d σ H => ∃ b, PySem.W.exmOne K cls c = some b ∧ (b = true → ∀ a, H a = none → ts a cls d (asEnds i D) (σ.set i (some (.ref a))) H) ∧ (b = false → wManyA K i Wo D r cls d σ H)
inductive HdsA (X : Cx) (n : Str) : List ExceptHandler → List (Value × (Addr → Value → Option Addr → TS)) → Prop
  | nil : HdsA X n [] []
  | cons {x : Str} {c : Value} {ts : Addr → Value → Option Addr → TS} {st : Stmt} {sts : List Stmt} {q1 q2 : Pos} {hs : List ExceptHandler} {l : List (Value × (Addr → Value → Option Addr → TS))} (hc : Names X x c)
      (hsu : ∀ (a : Addr) (oe : Obj) (cls : Value) (d : Option Addr) (pn : List (Addr × Obj)), Zc cls d oe → (∃ vs, oe.data = .fields vs) → PSs (X.suite a ((a, oe) :: pn)) (st :: sts) (ts a cls d)) (r : HdsA X n hs l) :
      HdsA X n (.ExceptHandler (some (.Name x q1)) (some n) (st :: sts) q2 :: hs) ((c, ts) :: l)
section
variable {X : Cx} {n : Str} {i : Nat} {bd : List Stmt} {h0 : ExceptHandler} {hs : List ExceptHandler} {l : List (Value × (Addr → Value → Option Addr → TS))} {pos : Pos} {tb : WX → TS} {Wo : WX}
theorem ps_try_manyA (hst : X.stack = X.env :: X.outer) (hfm : X.env.frame = some X.env.locals) (hnd : X.N.Nodup) (hni : X.N[i]? = some n) (hnl : X.env.kindOf n = some .local) (tk : Takes X Wo)
    (hb : ∀ (W : WX) (pn : List (Addr × Obj)) (xe : Value → Shared → Prop), Takes (X.tr pn xe) W → PassesOwn (model X.prog X.w) X.A X.env xe → PSs (X.tr pn xe) bd (tb W))
    (hh : HdsA X n (h0 :: hs) l) : PS X (.Try bd (h0 :: hs) [] [] pos) (fun D σ H => tb (wManyA X.K i Wo D l) D σ H) := by
  refine ⟨fun pins s σ H D I hw => ?_⟩
  have kk := I.ok
  have hfr2 : X.A.frames = some (X.env :: X.outer) := kk.frames.trans (congrArg some hst)
  have hlo : Loc X.env.scope n := Or.inl hnl
  refine wpAny_Try_except (wpAny_mono ((hb (wManyA X.K i Wo D l) (X.pn ++ pins) (fun e z1 => wpAny (model X.prog X.w) X.A (noteFrame e X.env) (fun _ z2 => wpAny (model X.prog X.w) X.A (setFlight e none) (fun _ z3 =>
    wpAny (model X.prog X.w) X.A (handleBy e X.env (h0 :: hs)) (SP X pins D) X.xe z3) X.xe z2) X.xe z1) (fun u z' xx => ?_) PassesOwn.looking).run [] s σ H D (I.toTry _) hw) (fun fl z1 hsp => ?_) (fun _ _ y => y))
  · obtain ⟨a, B, sI, pins', τ, G, cls, d, rfl, J', nb, up, sky, na, hos, hag, wch⟩ := xx
    have J : Inv X pins τ G sI := J'.ofTry kk
    have sky2 : Sky B (X.env :: X.outer) a (Zc cls d) X.env.locals z'.heap := hst ▸ sky
    refine Sky.land Zc.steady hfr2 hfm sky2 fun g3 fl3 up3 => ?_
    have J3 : Inv X pins τ G { z' with heap := g3 } := J.landed nb fl3.1 (up.trans up3) hos hag
    obtain ⟨o3, v3, he3, hz3, hd3⟩ := fl3.there
    have nin : a ∉ frs (X.env :: X.outer) := fun hm => by
      obtain ⟨_, o', e', hnf⟩ := fl3.2.2.1.mem hm
      rw [he3] at e'; cases e'; exact hnf _ hd3
    have nL : a ≠ X.env.locals := fun y => nin (List.mem_filterMap.mpr ⟨X.env, List.mem_cons_self, hfm.trans (congrArg some y.symm)⟩)
    have nF : a ∉ X.fs := fun hm => by
      obtain ⟨e, he, y⟩ := List.mem_filterMap.mp hm
      exact nin (List.mem_filterMap.mpr ⟨e, List.mem_cons_of_mem _ he, y⟩)
    have S3 := J3.suite he3 hd3 na nL nF
    have go : ∀ {hs' : List ExceptHandler} {l' : List (Value × (Addr → Value → Option Addr → TS))}, HdsA X n hs' l' → wManyA X.K i Wo D l' cls d τ G → wpAny (model X.prog X.w) X.A (handleBy (.ref a) X.env hs') (SP X pins D) X.xe { z' with heap := g3 } := by
      intro hs' l' hk
      induction hk with
      | nil =>
        intro wch
        obtain ⟨k1, k2, k3, oe, vs, T, oT, ts', he, hz, hd, h1, hr⟩ := id fl3
        refine wpAny_handleBy_nil ?_
        unfold PySem.passOn
        refine wpAny_bind (wpAny_field he hd h1 ?_)
        have fin : wpAny (model X.prog X.w) X.A (setFlight (.ref a) X.env.frame) (fun _ z4 => wpAny (model X.prog X.w) X.A (throw (.ref a) : Sem Flow) (SP X pins D) X.xe z4) X.xe { z' with heap := g3 } := by
          rw [hfm]
          exact HandSPX.setFlight_upZ fl3 fun h4 hh4 up4 => wpAny_throw (tk _ _ ⟨a, B, sI, pins, τ, G, cls, d, rfl, J, nb, (up.trans up3).trans up4, .inr (.inr (hst ▸ hh4)), na, hos, hag, wch⟩)
        rw [if_neg (by simp : ¬ ((Value.ref T == Value.none) = true))]
        first | exact wpAny_bind (wpAny_pure (wpAny_bind fin)) | exact wpAny_bind fin
      | @cons x c ts st sts q1 q2 hs2 l2 hc hsu r ih =>
        intro wch
        obtain ⟨b, hb1, yes, no⟩ := wch
        refine wpAny_handleBy_cons (codeAny_handlers_test ?_) (fun y => by cases y)
        have LT : PySem.W.Looks (model X.prog X.w) g3 (typeOf (.ref a)) cls := fun A Q E s k q => wpAny_typeOf_ref (k _ _ he3) (hz3.1.symm ▸ q)
        have LM := PySem.W.exm_one (M := model X.prog X.w) J3.kIn LT hb1
        have tst : ∀ {Q : Value → Shared → Prop} {E : Value → Shared → Prop}, Q c { z' with heap := g3 } → wpAny (model X.prog X.w) (X.A.mark (some (.ref a))) (eval (.Name x q1) X.env) Q E { z' with heap := g3 } := fun {Q E} y => by
          rcases hc with ⟨hg, hdb, hm | ⟨hm, hv, hnn⟩⟩
          · exact ld_glob (X := X.suite a ((a, o3) :: (X.pn ++ pins))) S3 hg hm y hdb
          · exact ld_blt (X := X.suite a ((a, o3) :: (X.pn ++ pins))) S3 hg hm hv y hnn hdb
        refine tst (LM.here ?_)
        cases b with
        | false => exact ih (no rfl)
        | true =>
          refine codeAny_handlers_suite_as (HandSPX.lands_againZ fl3 fun g4 fl4 up4 => ?_)
          have J4 : Inv X pins τ G { z' with heap := g4 } := J.landed nb fl4.1 ((up.trans up3).trans up4) hos hag
          obtain ⟨o4, v4, he4, hz4, hd4⟩ := fl4.there
          refine store_ok (X := X.suite a ((a, o4) :: (X.pn ++ pins))) (v := .ref a) (J4.suite he4 hd4 na nL nF) hnd hni hlo rfl (fun s5 S5 => ?_) (.inr hnl)
          refine wpAny_mono ((hsu a o4 cls d (X.pn ++ pins) hz4 ⟨_, hd4⟩).run [] s5 _ G _ S5 (yes rfl a na)) (fun fl z6 hsp => ?_) (fun _ _ y => y.elim)
          have over : ∀ {τ6 : L2.St} {G6 : Hp} {R : Shared → Prop}, Inv (X.suite a ((a, o4) :: (X.pn ++ pins))) [] τ6 G6 z6 → (∀ z7, Inv X pins (τ6.set i none) G6 z7 → R z7) →
              wpAny (model X.prog X.w) X.A (do bindName X.env n .none; unbindBehindTheSuite X.env n q2) (fun _ z7 => R z7) X.xe z6 := fun S6 hq => gone_ok (S6.unsuite kk) hnd hni hnl hq
          cases fl with
          | next => obtain ⟨τ6, G6, S6, q6⟩ := hsp; exact over S6 fun z7 J7 => ⟨_, _, J7, q6⟩
          | brk => obtain ⟨τ6, G6, S6, q6⟩ := hsp; exact over S6 fun z7 J7 => ⟨_, _, J7, q6⟩
          | cont => obtain ⟨τ6, G6, S6, q6⟩ := hsp; exact over S6 fun z7 J7 => ⟨_, _, J7, q6⟩
          | ret u => obtain ⟨v6, τ6, G6, S6, r6, q6⟩ := hsp; exact over S6 fun z7 J7 => ⟨_, _, _, J7, r6, q6⟩
    exact go hh wch
  · cases fl with
    | next => obtain ⟨τ, G, J', q⟩ := hsp; exact wpAny_execs_nil ⟨τ, G, J'.ofTry kk, q⟩
    | brk => obtain ⟨τ, G, J', q⟩ := hsp; exact ⟨τ, G, J'.ofTry kk, q⟩
    | cont => obtain ⟨τ, G, J', q⟩ := hsp; exact ⟨τ, G, J'.ofTry kk, q⟩
    | ret u => obtain ⟨v, τ, G, J', r, q⟩ := hsp; exact ⟨v, τ, G, J'.ofTry kk, r, q⟩
end
/-! ### what a law with lambdas knows of the heap: the bag at b, the tables T, these lists -/
/-- all that is no list stays -/
def NL (H H' : Hp) : Prop := ∀ a o, H a = some o → (∀ xs, o ≠ .lst xs) → H' a = some o
theorem tabs_nl {T : List (Addr × Str)} {H H' : Hp} (t : LamX.Tabs T H) (h : NL H H') : LamX.Tabs T H' := fun p hp => by
  obtain ⟨ps, h1, h2, h3⟩ := t p hp
  refine ⟨ps, h _ _ h1 (fun xs z => by cases z), h2, fun pos cv hc => ?_⟩
  obtain ⟨c, e1, e2⟩ := h3 pos cv hc
  exact ⟨c, e1, h _ _ e2 (fun xs z => by unfold LamX.CodeO at z; cases z)⟩
structure ST (b : Addr × Addr) (T : List (Addr × Str)) (H : Hp) (L : List (Addr × List V)) : Prop where
  bag : Bag b H
  nb : ∀ p ∈ L, p.1 ≠ b.1 ∧ p.1 ≠ b.2
  kn : ∀ p ∈ L, H p.1 = some (.lst p.2)
  tab : LamX.Tabs T H
section
variable {b : Addr × Addr} {T : List (Addr × Str)} {p : Addr} {H H' : Hp} {L L' : List (Addr × List V)} {o o' : List V}
theorem ST.same (h : ST b T H L) (s : Same H H') : ST b T H' L := ⟨h.bag.same s, h.nb, fun q hq => s _ _ (h.kn q hq), h.tab.ext s⟩
theorem ST.mv (h : ST b T H L) (m : Mv b.1 H H') (g : Bag b H') : ST b T H' L := ⟨g, h.nb, fun q hq => m _ _ (h.nb q hq).1 (h.kn q hq), tabs_nl h.tab (fun a o e n => m a o (fun z => by
  obtain ⟨_, _, _, _, _, h1, _⟩ := h.bag
  rw [z, h1] at e
  exact n _ (Option.some.inj e).symm) e)⟩
theorem ST.add (h : ST b T H L) (n : p ≠ b.1) (n2 : p ≠ b.2) (e : H p = some (.lst o)) : ST b T H ((p, o) :: L) :=
  ⟨h.bag, fun q hq => (List.mem_cons.mp hq).elim (fun z => by rw [z]; exact ⟨n, n2⟩) (h.nb q), fun q hq => (List.mem_cons.mp hq).elim (fun z => by rw [z]; exact e) (h.kn q), h.tab⟩
theorem ST.new (h : ST b T H L) (n : H p = none) : ST b T (upd H p (.lst o)) ((p, o) :: L) := (h.same (same_upd n)).add (h.bag.ne n) (h.bag.ne2 n) upd_same
theorem ST.newS (h : ST b T H L) (s : Same H H') (n : H p = none) (e : H' p = some (.lst o)) : ST b T H' ((p, o) :: L) := (h.same s).add (h.bag.ne n) (h.bag.ne2 n) e
theorem ST.newM (h : ST b T H L) (m : Mv b.1 H H') (g : Bag b H') (n : H p = none) (e : H' p = some (.lst o)) : ST b T H' ((p, o) :: L) := (h.mv m g).add (h.bag.ne n) (h.bag.ne2 n) e
theorem ST.sub (h : ST b T H L) (hs : ∀ q ∈ L', q ∈ L) : ST b T H L' := ⟨h.bag, fun q hq => h.nb q (hs q hq), fun q hq => h.kn q (hs q hq), h.tab⟩
theorem ST.get (h : ST b T H L) (hm : (p, o) ∈ L) : H p = some (.lst o) := h.kn _ hm
theorem ST.ne (h : ST b T H L) (hm : (p, o) ∈ L) : p ≠ b.1 := (h.nb _ hm).1
theorem ST.put (h : ST b T H ((p, o) :: L)) (hd : ∀ q ∈ L, q.1 ≠ p) : ST b T (upd H p (.lst o')) ((p, o') :: L) :=
  ⟨h.bag.upd (h.nb _ (.head _)).1 (h.nb _ (.head _)).2, fun q hq => (List.mem_cons.mp hq).elim (fun z => by rw [z]; exact h.nb (p, o) (.head L)) (fun hq => h.nb q (.tail _ hq)),
    fun q hq => (List.mem_cons.mp hq).elim (fun z => by rw [z]; exact upd_same) (fun hq => by rw [upd_ne (hd q hq)]; exact h.kn q (.tail _ hq)), tabs_nl h.tab (fun a u e n => by
      have e2 := h.kn (p, o) (.head _)
      rw [upd_ne (fun z => by rw [z, e2] at e; exact n _ (Option.some.inj e).symm)]
      exact e)⟩
theorem ST.apart (h : ST b T H L) (n : H p = none) : ∀ q ∈ L, q.1 ≠ p := fun q hq => ne_of_none (h.kn q hq) n
theorem ST.nil (g : Bag b H) (t : LamX.Tabs T H) : ST b T H [] := ⟨g, (fun _ h => absurd h List.not_mem_nil), (fun _ h => absurd h List.not_mem_nil), t⟩
theorem ST.extN (h : ST b T H L) (e : LamX.ExtN H H') (t : LamX.Tabs T H') : ST b T H' L := by
  refine ⟨?_, h.nb, fun q hq => e _ _ (h.kn q hq) (fun ps z => by cases z), t⟩
  obtain ⟨ns, i, r, x, c, h1, h2, h3⟩ := h.bag
  exact ⟨ns, i, r, x, c, e _ _ h1 (fun ps z => by cases z), e _ _ h2 (fun ps z => by cases z), h3⟩
end
/-! ### takes, where the slots are as many as the names -/
theorem takes_len {X : Cx} {W : WX} (tk : Takes X W) : Takes X (fun cls d σ H => σ.length = X.N.length → W cls d σ H) := fun u s' x => by
  obtain ⟨a, B, sI, pins, σ, H, cls, d, e, I, nb, up, sky, na, os, ag, w⟩ := x
  exact tk u s' ⟨a, B, sI, pins, σ, H, cls, d, e, I, nb, up, sky, na, os, ag, w I.len⟩
/-- what the law's at makes of a lambda that is refused by one of these classes -/
def TAt (cs : List (Addr × Str)) : (XK → Hp → VK → Prop) → Hp → VK → Prop := fun tl H Q =>
  tl (fun cls d H' => ∃ e ∈ cs, cls = .ref e.1 ∧ ∃ (dd : Addr) (v : V), d = some dd ∧ H' dd = some (.xd [(("at" : Str), v), (("word" : Str), .str e.2)]) ∧ ∀ p, H' p = none → Q (.ref p) (upd H' p (.lst [.str e.2, v]))) H (fun _ _ => False)
/-- a class of refusals with a place -/
structure AtC (K : PySem.W.Frag) (mg : Str → Option Value) (nm : Str) (C : Addr) : Prop where
  gC : mg nm = some (.ref C)
  xf : XfC K C
  no : PySem.W.findIn K (.ref C) "at" = some none
theorem set_get {σ : L2.St} {i : Nat} {v : Option V} (h : i < σ.length) : (σ.set i v)[i]? = some v := by
  rw [List.getElem?_set_self h]
/-! ### a law that hands lambdas to a def -/
def LamTo (X : Cx) (T : List (Addr × Str)) (nm : Str) (TT : (XK → Hp → VK → Prop) → Hp → VK → Prop) : Prop :=
  ∀ {params : Arguments} {body : Expr} {scope : Scope} {t : XK → TE} {p lpos pos : Pos} {k : Nat}, Room (k + 2) X.A → LamX.LamS X.env.scope scope → defaultsOf params X.env = ([], []) →
    (∀ (q : Str) (cl : List (Str × Addr)) (pm cv ctv : Value), bindArgs (PySem.W.kla_fn "<lambda>" q params body scope cl pm cv ctv) ⟨[], []⟩ = pure []) →
    (∀ (A : Around) (outer : List Env) (s : Shared) (H : Hp) (E : XK) (f c' : Addr), Room k (A.deeper (LamX.lamEnv X scope s.heap.objs.size f c')) → PE (LamX.lamCx X A outer s H E scope f c') body (t E)) →
    PE X (.Call (.Name nm p) [.Lambda params body scope lpos] [] pos) (LamX.tLam T TT t)
theorem okL {P : Program} {w : World} {K : PySem.W.Frag} {mg : Str → Option Value} {base : Heap} {x qual : Str} {st : Stmt} {f c : Addr} {N ps : List Str} {k : Nat} {sp : Sp} {oc : Value} {od an : Option Addr} {osl : Array (Option Value)} {kV doc pm ct : Value}
    (lk : K.lookup f = some ⟨oc, od, .func (PySem.W.fnOf x qual (defArgs st) (defBody st) (defScope st) .none kV doc pm an (.ref c) ct), osl⟩) (hcd : PySem.W.codeIn K (.ref c) qual = true) (S : FnScope N ps (defScope st)) (len : ∀ vs H Q E, sp vs H Q E → vs.length = ps.length)
    (hbody : ∀ (A : Around) (outer : List Env) (s : Shared) (H : Hp) (vs : List V) (Q : VK) (E : XK), Room k (A.deeper (envOfC qual (defScope st) s.heap.objs.size f (.ref c))) → sp vs H Q E →
      ∃ t, PSs (cxOf CX0 P w K mg base N qual (defScope st) f (.ref c) A outer s H E).nox (defBody st) t ∧ t { nx := fun _ H' => Q .non H', rt := Q } (L2.start N vs) H) :
    FnOk P w K mg base CX0 (k + 1) f (PySem.W.fnOf x qual (defArgs st) (defBody st) (defScope st) .none kV doc pm an (.ref c) ct) ps sp := by
  refine fn_of lk hcd S len fun A outer s H vs Q E hr hsp => ?_
  obtain ⟨t, h, q⟩ := hbody A outer s H vs Q E hr hsp
  exact ⟨t, h.nox, q⟩
/-! ### a class of refusals without a value -/
def spIni0 (K : PySem.W.Frag) (C : Addr) (nm : Str) : Sp := fun vs H Q _ => ∃ (a : Addr), vs = [.ref a] ∧ H a = some (exo a C none) ∧ ∀ d, H d = none → d ≠ a → Q .non (upd (upd H d (exd d [(("word" : Str), .str nm)])) a (exo a C (some d)))
section
variable {X : Cx} {k : Nat} {nm : Str} {C : Addr} {sp : Sp} {p pos : Pos}
theorem pmk_c0 (x : XcOk X.prog X.w X.K X.mg X.base k nm C sp) (hr : Room (k + 1) X.A) (hg : Gl X nm) (hdb : (nm == ("__debug__" : Str)) = false := by decide) : PMk X (.Call (.Name nm p) [] [] pos) (tMkO C sp [] tNil) := by
  obtain ⟨fI, fd, ps, T, iC, tI, F1, hb, hm⟩ := x
  intro pins s σ H Q I h
  obtain ⟨nm', q, N, bs, bm, sn, sub, ab, col, dd, k0, k1, k2, k3, k5, hC, hbm⟩ := T.cls
  refine wpAny_Call_Name_kw (ld_glob I hg hm ?_ hdb)
  refine PySem.W.callWith_K0 I.kIn T.kC ?_
  show wpAny _ _ (call (.ref C) []) _ _ _
  have q1 : ∀ a, H a = none → sp (.ref a :: ([] ++ [])) (upd H a (exo a C none)) _ _ := h.2
  obtain ⟨hp, g, dr, tk, os⟩ := s
  have hsz : hp.objs.size ≤ hp.objs.size + 1 := Nat.le_succ _
  have hq := q1 (hp.objs.size + 1) (I.hok.fresh hsz)
  have kk : ∀ b o, hp.get? b = some o → ((hp.push (PySem.W.kdv_tup [])).push (PySem.HandSPX.excO C hp.objs.size)).get? b = some o := fun b o e => Heap.get?_push_of_some _ (Heap.get?_push_of_some _ e)
  have hget : ((hp.push (PySem.W.kdv_tup [])).push (PySem.HandSPX.excO C hp.objs.size)).get? (hp.objs.size + 1) = some (PySem.HandSPX.excO C hp.objs.size) := by heap_get
  have I2 : Inv X pins σ (upd H (hp.objs.size + 1) (exo (hp.objs.size + 1) C none)) ⟨(hp.push (PySem.W.kdv_tup [])).push (PySem.HandSPX.excO C hp.objs.size), g, dr, tk, os⟩ :=
    I.laid (t' := tk) (a := hp.objs.size + 1) (o := exo (hp.objs.size + 1) C none) (h' := (hp.push (PySem.W.kdv_tup [])).push (PySem.HandSPX.excO C hp.objs.size)) kk hsz (exo_ok hget)
  have r2 : Vals [V.ref (hp.objs.size + 1)] [Value.ref (hp.objs.size + 1)] := .cons rfl .nil
  have hl : ([Value.ref (hp.objs.size + 1)] ++ []).length = ps.length := (F1.len _ _ _ _ hq)
  refine wpAny_call (PySem.HandSPX.call_own F.excBase_ValueError (fun Y => PySem.HandSPX.refsVE_contains Y bm hbm) (I.kIn _ _ hC) (PySem.W.looks_findIn I.kIn iC) (fun self => PySem.W.bind_fn I.kIn self tI) (Nat.zero_le _)
    (codeAny_mono (F1.run _ X.stack _ _ ⟨[Value.ref (hp.objs.size + 1)], []⟩ [Value.ref (hp.objs.size + 1)] _ _ (fun _ _ _ => False) (hr.make C [] []) (I2.env0.make C [] []) (hb _ [Value.ref (hp.objs.size + 1)] I2.kIn hl) r2 hq) fun r s' hq' => ?_))
  cases r with
  | error er => exact (show False from hq').elim
  | ok fl =>
    cases fl with
    | ret u =>
      obtain ⟨v, H2, os2, bare2, un2, hok2, rv, ev, d, fs, ea, ed, hd1, q2⟩ := hq'
      subst ev
      obtain ⟨h2, g2, d2, t2, os'⟩ := s'
      exact ⟨rv, mk_end (raises_own T.exC T.tyC) I hsz kk un2 hok2 os2 bare2 ea ed hd1 q2⟩
    | next => exact False.elim hq'
    | brk => exact False.elim hq'
    | cont => exact False.elim hq'
end
theorem mk_inner0 {K : PySem.W.Frag} {C : Addr} {nm : Str} {H1 : Hp} {Q : XK}
    (q : ∀ H' d, Same H1 H' → H1 d = none → H' d = some (.xd [(("word" : Str), .str nm)]) → Q (.ref C) (some d) H') :
    ([] : List V).length ≤ 1000 ∧ ∀ a, H1 a = none → spIni0 K C nm (.ref a :: (([] : List V) ++ [])) (upd H1 a (exo a C none))
      (fun v H2 => v = .non ∧ ∃ (d : Addr) (fs : List (Str × V)), H2 a = some (exo a C (some d)) ∧ H2 d = some (exd d fs) ∧ H1 d = none ∧ Q (.ref C) (some d) (upd (del H2 a) d (.xd fs))) (fun _ _ _ => False) := by
  refine ⟨Nat.zero_le _, fun a na => ⟨a, rfl, upd_same, fun d nd da => ⟨rfl, d, [(("word" : Str), .str nm)], upd_same, ?_, ?_, ?_⟩⟩⟩
  · rw [upd_ne da, upd_same]
  · rw [upd_ne da] at nd
    exact nd
  · rw [upd_ne da] at nd
    refine q _ d (fun b o h => ?_) nd upd_same
    have hb : b ≠ d := ne_of_none h nd
    have hba : b ≠ a := ne_of_none h na
    rw [upd_ne hb, del_ne hba, upd_ne hba, upd_ne hb, upd_ne hba]
    exact h
/-- what the law's tried makes of a lambda: told, or refused by the class at C, whose word it tells -/
def TTried (C : Addr) (nm : Str) : (XK → Hp → VK → Prop) → Hp → VK → Prop := fun tl H Q =>
  tl (fun cls d H' => cls = .ref C ∧ ∃ (dd : Addr) (fs : List (Str × V)), d = some dd ∧ H' dd = some (.xd fs) ∧ fs.lookup ("word" : Str) = some (.str nm) ∧ ∀ p, H' p = none → Q (.ref p) (upd H' p (.tup [.str "refused", .str nm]))) H
    (fun v H1 => ([V.str "told", v] : List V).length ≤ sizeLine ∧ ∀ p, H1 p = none → Q (.ref p) (upd H1 p (.tup [.str "told", v])))
/-! ### a def called by keywords alone -/
def gK {α : Type} (perm : List α → List α) : List α → List α → List α
  | [], ws => perm ws
  | _ :: _, _ => []
section
variable {X : Cx} {CX : CXT} {k : Nat} {f : Addr} {fd : FuncData} {ps ks : List Str} {sp : Sp} {E : XK} {x : Str} {p pos : Pos} {kws : List Keyword} {tk : TA} {g : List Value → List Value → List Value} {gV : List V → List V → List V}
theorem pe_callK0 (F : FnOk X.prog X.w X.K X.mg X.base CX k f fd ps sp) (hr : Room k X.A) (hg : Gl X x) (hm : X.mg x = some (.ref f)) (hk : PySem.W.keepIn X.K (.ref f) = true) (hb : KBinds X.K fd ps ks g gV) (hx : Passes CX X E) (hkw : PK X kws tk)
    (hall : ((backToKw pos (keywordEach kws X.env)).all fun x => x.1.isSome) = true := by rfl) (hks : (backToKw pos (keywordEach kws X.env)).filterMap (·.1) = ks := by rfl) (hdb : (x == ("__debug__" : Str)) = false := by decide)
    (hpl : ((backTo pos (starEach [] X.env)).any (·.1) || (backToKw pos (keywordEach kws X.env)).any fun x => x.1.isNone) = false := by rfl) : PE X (.Call (.Name x p) [] kws pos) (tCallK sp gV E tNil tk) := by
  refine ⟨fun pins s σ H Q I h => wpAny_Call_Name_kw (ld_glob I hg hm ?_ hdb)⟩
  refine PySem.W.callWith_KW0 (I.ok.mod.kin) hk hall (thn (hkw.run pos pins s σ H (fun zs H2 => sp (gV [] zs) H2 Q E) I h) fun ws s2 x => ?_) hpl
  obtain ⟨zs, H2, I2, rz, q2⟩ := x
  refine ⟨I2.kIn, ?_⟩
  rw [hks]
  exact run_fnk F hr hb hx I2 .nil rz q2
end
def CalK (P : Program) (w : World) (K : PySem.W.Frag) (mg : Str → Option Value) (base : Heap) (k : Nat) (nm : Str) (ps ks : List Str) (gV : List V → List V → List V) (sp : Sp) : Prop :=
  ∃ (f : Addr) (fd : FuncData) (g : List Value → List Value → List Value), FnOk P w K mg base (L2.CX P w) k f fd ps sp ∧ mg nm = some (.ref f) ∧ PySem.W.keepIn K (.ref f) = true ∧ KBinds K fd ps ks g gV
theorem CalK.mono {P : Program} {w : World} {K : PySem.W.Frag} {mg : Str → Option Value} {base : Heap} {j k : Nat} {nm : Str} {ps ks : List Str} {gV : List V → List V → List V} {sp : Sp} (c : CalK P w K mg base j nm ps ks gV sp) (h : j ≤ k) : CalK P w K mg base k nm ps ks gV sp := by
  obtain ⟨f, fd, g, a, b, d, e⟩ := c
  exact ⟨f, fd, g, a.mono h, b, d, e⟩
section
variable {X : Cx} {k : Nat} {ps ks : List Str} {sp : Sp} {nm : Str} {p pos : Pos} {kws : List Keyword} {tk : TA} {gV : List V → List V → List V}
theorem pe_callKF (c : CalK X.prog X.w X.K X.mg X.base k nm ps ks gV sp) (hr : Room k X.A) (hg : Gl X nm) (hkw : PK X kws tk)
    (hall : ((backToKw pos (keywordEach kws X.env)).all fun x => x.1.isSome) = true := by rfl) (hks : (backToKw pos (keywordEach kws X.env)).filterMap (·.1) = ks := by rfl) (hdb : (nm == ("__debug__" : Str)) = false := by decide)
    (hpl : ((backTo pos (starEach [] X.env)).any (·.1) || (backToKw pos (keywordEach kws X.env)).any fun x => x.1.isNone) = false := by rfl) : PE X (.Call (.Name nm p) [] kws pos) (tCallK sp gV E0 tNil tk) := by
  obtain ⟨f, fd, g, a, b, d, e⟩ := c
  exact pe_callK0 a hr hg b d e passL hkw hall hks hdb hpl
end
def two {α : Type} : List α → List α
  | [a, b] => [b, a]
  | _ => []
theorem kb_one {K : PySem.W.Frag} {x qual y : Str} {st : Stmt} {f : Addr} {fd : FuncData} (F : Fun K x qual st f fd) (h : ∀ (kV doc pm : Value) (an : Option Addr) (cdv ct : Value) (u : Value), bindArgs (PySem.W.fnOf x qual (defArgs st) (defBody st) (defScope st) .none kV doc pm an cdv ct) ⟨[], [(y, u)]⟩ = pure [(y, u)]) :
    KBinds K fd [y] [y] (gK id) (gK id) := by
  refine ⟨fun s us ws X hl M A E Q q => ?_, fun {vs us zs ws} r rz => ?_⟩
  · obtain ⟨oc, od, kV, doc, pm, an, cdv, ct, osl, rfl, _⟩ := F.ex
    cases us with
    | cons _ _ => exact absurd hl (by show 0 ≠ 1; decide)
    | nil =>
      match ws, hl with
      | [u], _ =>
        show wpAny M A (bindArgs _ ⟨[], [(y, u)]⟩) Q E s
        rw [h]
        exact wpAny_pure q
  · cases r with
    | nil => exact rz
    | cons _ _ => exact .nil
theorem kb_two {K : PySem.W.Frag} {x qual y z : Str} {st : Stmt} {f : Addr} {fd : FuncData} (F : Fun K x qual st f fd) (h : ∀ (kV doc pm : Value) (an : Option Addr) (cdv ct : Value) (u v : Value), bindArgs (PySem.W.fnOf x qual (defArgs st) (defBody st) (defScope st) .none kV doc pm an cdv ct) ⟨[], [(z, u), (y, v)]⟩ = pure [(y, v), (z, u)]) :
    KBinds K fd [y, z] [z, y] (gK two) (gK two) := by
  refine ⟨fun s us ws X hl M A E Q q => ?_, fun {vs us zs ws} r rz => ?_⟩
  · obtain ⟨oc, od, kV, doc, pm, an, cdv, ct, osl, rfl, _⟩ := F.ex
    cases us with
    | cons _ _ => exact absurd hl (by show 0 ≠ 2; decide)
    | nil =>
      match ws, hl, q with
      | [], hl, q => exact absurd hl (by show 0 ≠ 2; decide)
      | [_], hl, q => exact absurd hl (by show 0 ≠ 2; decide)
      | [u, v], _, q =>
        show wpAny M A (bindArgs _ ⟨[], [(z, u), (y, v)]⟩) Q E s
        rw [h]
        exact wpAny_pure q
      | _ :: _ :: _ :: _, hl, q => exact absurd hl (by show 0 ≠ 2; decide)
  · cases r with
    | cons _ _ => exact .nil
    | nil =>
      cases rz with
      | nil => exact .nil
      | cons a r => cases r with
        | nil => exact .nil
        | cons b r => cases r with
          | nil => exact .cons b (.cons a .nil)
          | cons _ _ => exact .nil
/-- what the law's most makes of a lambda that is refused by the class at C -/
def TMost (C : Addr) (nm : Str) : (XK → Hp → VK → Prop) → Hp → VK → Prop := fun tl H Q =>
  tl (fun cls d H' => cls = .ref C ∧ ∃ (dd : Addr) (v : V), d = some dd ∧ H' dd = some (.xd [(("most" : Str), v), (("word" : Str), .str nm)]) ∧ ∀ p, H' p = none → Q (.ref p) (upd H' p (.lst [.str nm, v]))) H (fun _ _ => False)
end WB
namespace WB
open PySem PySem.Spec PyProof.Rows L2
/-! ### lambdas that are kept in a list -/
abbrev lamO (X : Cx) (params : Arguments) (body : Expr) (scope : Scope) (pm : Value) (c' : Addr) (ctv : Value) : Obj := PySem.W.kla_obj "<lambda>" (X.env.qual ++ "<lambda>") params body scope (cloFrom X.env.cells scope.names []) pm c' ctv
section
variable {X : Cx} {pins : List (Addr × Obj)} {σ : L2.St} {H : Hp} {s : Shared}
theorem inv_pin (I : Inv X pins σ H s) (hst : X.stack = X.env :: X.outer) (hfm : X.env.frame = some X.env.locals) {f : Addr} {o : Obj} (hf : s.heap.get? f = some o) (hn : H f = none) (hfr : f ∉ frs X.stack) (hd : ∀ v, o.data ≠ .cell v) : Inv X (pins ++ [(f, o)]) σ H s := by
  have nL : f ≠ X.env.locals := fun y => hfr (List.mem_filterMap.mpr ⟨X.env, by rw [hst]; exact List.mem_cons_self, hfm.trans (congrArg some y.symm)⟩)
  have nF : f ∉ X.fs := fun hm => by
    obtain ⟨e, he, y⟩ := List.mem_filterMap.mp hm
    exact hfr (List.mem_filterMap.mpr ⟨e, by rw [hst]; exact List.mem_cons_of_mem _ he, y⟩)
  refine { I with pin := fun p hp => ?_ }
  rcases List.mem_append.mp hp with h | h
  · exact I.pin p (List.mem_append_left _ h)
  rcases List.mem_append.mp h with h | h
  · exact I.pin p (List.mem_append_right _ h)
  · rw [List.mem_singleton.mp h]
    exact ⟨hf, hn, nL, nF, hd⟩
theorem inv_unpin {l : List (Addr × Obj)} (I : Inv X (pins ++ l) σ H s) : Inv X pins σ H s := by
  refine { I with pin := fun p hp => I.pin p ?_ }
  rcases List.mem_append.mp hp with h | h
  · exact List.mem_append_left _ h
  · exact List.mem_append_right _ (List.mem_append_left _ h)
end
section
variable {X : Cx} {T : List (Addr × Str)} {c P : Addr} {params : Arguments} {body : Expr} {scope : Scope} {lpos lp py pos : Pos} {y : Str} {i : Nat} {rest : List Stmt} {u : Addr → Addr → TS}
theorem sp_back {X : Cx} {pins l : List (Addr × Obj)} {D : Ends} {fl : Flow} {s : Shared} (kk : Cx.Ok X) (h : SP (X.tr (X.pn ++ (pins ++ l)) X.xe) [] D fl s) : SP X pins D fl s := by
  cases fl with
  | next => obtain ⟨τ, G, J, q⟩ := h; exact ⟨τ, G, inv_unpin (J.ofTry kk), q⟩
  | brk => obtain ⟨τ, G, J, q⟩ := h; exact ⟨τ, G, inv_unpin (J.ofTry kk), q⟩
  | cont => obtain ⟨τ, G, J, q⟩ := h; exact ⟨τ, G, inv_unpin (J.ofTry kk), q⟩
  | ret u => obtain ⟨v, τ, G, J, r, q⟩ := h; exact ⟨v, τ, G, inv_unpin (J.ofTry kk), r, q⟩
/-- xs = [lambda: e] -/
theorem pss_lamset {q : Str} (hq : X.env.qual ++ "<lambda>" = q) (hst : X.stack = X.env :: X.outer) (hfm : X.env.frame = some X.env.locals) (hN : X.N.Nodup) (hi : X.N[i]? = some y) (hy : Loc X.env.scope y) (TB : LamX.TabB X.base X.mg c P) (hcode : X.env.code = .ref c) (hmT : (P, X.env.qual ++ "<lambda>") ∈ T)
    (hu : ∀ p ∈ T, p.1 = P → p.2 = X.env.qual ++ "<lambda>") (L : LamX.LamS X.env.scope scope) (hdef : defaultsOf params X.env = ([], []))
    (hrest : ∀ (f c' : Addr) (pm ctv : Value) (pn' : List (Addr × Obj)), f ∉ frs X.stack → (f, lamO X params body scope pm c' ctv) ∈ pn' → (∀ p ∈ X.pn, p ∈ pn') → PSs (X.tr pn' X.xe) rest (u f c'))
    (hs : swapsWith (.List [.Lambda params body scope lpos] lp) (some (.Name y py)) pos.line X.env = pure false := by rfl) (hl : X.fn y = true ∨ X.env.scope.names.lookup y = some .local := by first | exact .inr rfl | exact .inl rfl) :
    PSs X (.Assign [.Name y py] (.List [.Lambda params body scope lpos] lp) pos :: rest)
      (fun D σ H => LamX.Tabs T H ∧ ∀ (f c' : Addr) (H1 : Hp), LamX.ExtN H H1 → LamX.Tabs T H1 → H1 f = none → H1 c' = some (LamX.CodeO c' q) → ∀ p, H1 p = none → u f c' D (σ.set i (some (.ref p))) (upd H1 p (.lst [.ref f]))) := by
  refine ⟨fun pins s σ H D I h => ?_⟩
  subst hq
  obtain ⟨hT, h⟩ := h
  have kk := I.ok
  refine wpAny_execs_cons (wpAny_Assign_Name (wpAny_List_spliced ?_) hs)
  show wpAny _ _ (spliced [(false, _)]) _ _ _
  refine Calls.spliced_cons (LamX.lam_make2 I TB hcode hmT hu hT hdef (L.has I.ok) fun f c' pm ctv H1 s' I1 eN T1 hf hfn hfr hco => Calls.spliced_nil ⟨(by show 1 ≤ sizeLine; decide), ?_⟩)
  have I2 := inv_pin I1 hst hfm hf hfn hfr (fun v z => by cases z)
  have hfresh := I2.hok.fresh (Nat.le_refl s'.heap.objs.size)
  have I3 : Inv X (pins ++ [(f, lamO X params body scope pm c' ctv)]) σ (upd H1 s'.heap.objs.size (.lst [.ref f])) { s' with heap := s'.heap.push { cls := .type "list", data := .seq (List.toArray [Value.ref f]) } } :=
    I2.laid (t' := s'.toks) (fun b w e => Heap.get?_push_of_some _ e) (Nat.le_refl _) ⟨(by show 1 ≤ sizeLine; decide), [Value.ref f], 0, .cons rfl .nil, Heap.get?_push_size s'.heap rfl⟩
  refine store_ok (v := .ref s'.heap.objs.size) I3 hN hi hy rfl (fun s2 I4 => ?_) hl
  have kr := (hrest f c' pm ctv (X.pn ++ (pins ++ [(f, lamO X params body scope pm c' ctv)])) hfr (List.mem_append_right _ (List.mem_append_right _ (.head _))) (fun p hp => List.mem_append_left _ hp)).run [] s2 _ _ D (I4.toTry X.xe) (h f c' H1 eN T1 hfn hco _ hfresh)
  exact wpAny_mono kr (fun fl z hsp => sp_back kk hsp) (fun _ _ y => y)
variable {p1 p2 p3 p4 : Pos}
/-- xs.append(lambda: e) -/
theorem pss_lamapp {q : Str} (hq : X.env.qual ++ "<lambda>" = q) (hst : X.stack = X.env :: X.outer) (hfm : X.env.frame = some X.env.locals) (hv : PE X (.Name y p1) (tVar i)) (TB : LamX.TabB X.base X.mg c P) (hcode : X.env.code = .ref c) (hmT : (P, X.env.qual ++ "<lambda>") ∈ T)
    (hu : ∀ p ∈ T, p.1 = P → p.2 = X.env.qual ++ "<lambda>") (L : LamX.LamS X.env.scope scope) (hdef : defaultsOf params X.env = ([], []))
    (hrest : ∀ (f c' : Addr) (pm ctv : Value) (pn' : List (Addr × Obj)), f ∉ frs X.stack → (f, lamO X params body scope pm c' ctv) ∈ pn' → (∀ p ∈ X.pn, p ∈ pn') → PSs (X.tr pn' X.xe) rest (u f c'))
    (hbase : attributeBase (.Name y p1) "append" X.env (eval (.Name y p1) X.env) = eval (.Name y p1) X.env := by rfl) (hline : (p2.endLine == p3.line) = true := by rfl)
    (hs : swapsWith (.Call (.Attribute (.Name y p1) "append" p2) [.Lambda params body scope lpos] [] p3) none p4.line X.env = pure false := by rfl) :
    PSs X (.Expr (.Call (.Attribute (.Name y p1) "append" p2) [.Lambda params body scope lpos] [] p3) p4 :: rest)
      (fun D σ H => LamX.Tabs T H ∧ ∃ p xs, σ[i]? = some (some (.ref p)) ∧ H p = some (.lst xs) ∧ xs.length < sizeLine ∧ ∀ (f c' : Addr) (H1 : Hp), LamX.ExtN H H1 → LamX.Tabs T H1 → H1 f = none → H1 c' = some (LamX.CodeO c' q) → u f c' D σ (upd H1 p (.lst (xs ++ [.ref f])))) := by
  refine ⟨fun pins s σ H D I h => ?_⟩
  subst hq
  obtain ⟨hT, p, xs, hσ, hp, hz, h⟩ := h
  have kk := I.ok
  refine wpAny_execs_cons (wpAny_Expr_any ?_ I.quiet hs)
  refine wpAny_Call_method_late (trees := [(false, _)]) hbase (by rfl) hline rfl (thn (hv.run pins s σ H (fun x H1 => x = .ref p ∧ H1 = H) I ⟨_, hσ, rfl, rfl⟩) fun v s1 x => ?_)
  obtain ⟨x, H1, I1, r1, rfl, rfl⟩ := x
  obtain ⟨h1, h2⟩ := tyV_is (T := "list") I1 r1 (.inl ⟨rfl, xs, SqL.of hp⟩)
  refine ⟨"list", "list.append", PySem.F.plainAttrs_list, PySem.F.slot_list_append, PySem.F.type_list_append, h1, h2, ?_⟩
  refine Calls.callWith_builtin (by rfl) (Calls.evalArgs_plain ?_)
  refine Calls.spliced_cons (LamX.lam_make2 I1 TB hcode hmT hu hT hdef (L.has I1.ok) fun f c' pm ctv H2 s' I2 eN T2 hf hfn hfr hco => Calls.spliced_nil ?_)
  have I3 := inv_pin I2 hst hfm hf hfn hfr (fun v z => by cases z)
  have hp2 := eN _ _ hp (fun ps z => by cases z)
  refine thn (mt_append (X := X) (pins ++ [(f, lamO X params body scope pm c' ctv)]) s' σ H2 (.ref p) [.ref f] v [Value.ref f] (fun v H' => H' = upd H2 p (.lst (xs ++ [.ref f]))) I3 r1 (.cons rfl .nil) ⟨p, xs, .ref f, rfl, rfl, hp2, hz, rfl⟩) fun w s2 x => ?_
  obtain ⟨w', H', I4, r4, rfl⟩ := x
  have kr := (hrest f c' pm ctv (X.pn ++ (pins ++ [(f, lamO X params body scope pm c' ctv)])) hfr (List.mem_append_right _ (List.mem_append_right _ (.head _))) (fun p hp => List.mem_append_left _ hp)).run [] s2 _ _ D (I4.toTry X.xe) (h f c' H2 eN T2 hfn hco)
  exact wpAny_mono kr (fun fl z hsp => sp_back kk hsp) (fun _ _ y => y)
end
section
variable {X : Cx} {TT : (XK → Hp → VK → Prop) → Hp → VK → Prop} {x a : Str} {g f c' : Addr} {k : Nat} {pg : Arguments} {bg : List Stmt} {sg : Scope} {dV kV doc pm cdv ct oc pm' ctv : Value} {an od : Option Addr} {osl : Array (Option Value)} {Ng : List Str}
  {params : Arguments} {body ea : Expr} {scope : Scope} {t : XK → TE} {p pos : Pos} {j : Nat}
/-- g(x), where x is a lambda that was kept -/
theorem pe_actname {q : Str} (hq : X.env.qual ++ "<lambda>" = q) (hpin : (f, lamO X params body scope pm' c' ctv) ∈ X.pn) (hfr : f ∉ frs X.stack) (hg : Gl X x) (hm : X.mg x = some (.ref g)) (hk : PySem.W.keepIn X.K (.ref g) = true) (lk : X.K.lookup g = some ⟨oc, od, .func (PySem.W.fnOf x x pg bg sg dV kV doc pm an cdv ct), osl⟩)
    (hcg : PySem.W.codeIn X.K cdv x = true) (hb : L2.Binds X.K (PySem.W.fnOf x x pg bg sg dV kV doc pm an cdv ct) [a] []) (Sg : FnScope Ng [a] sg) (hNg : Ng[0]? = some a) (hva : Vis sg a) (hG : LamX.GivesTo X Ng x sg g cdv bg a (X.env.qual ++ "<lambda>") TT)
    (hr : Room (k + 2) X.A) (L : LamX.LamS X.env.scope scope) (hbind : ∀ (q : Str) (cl : List (Str × Addr)) (pm cv ctv : Value), bindArgs (PySem.W.kla_fn "<lambda>" q params body scope cl pm cv ctv) ⟨[], []⟩ = pure [])
    (hbody : ∀ (A : Around) (outer : List Env) (s : Shared) (H : Hp) (E : XK) (f c' : Addr), Room k (A.deeper (LamX.lamEnv X scope s.heap.objs.size f c')) → PE (LamX.lamCx X A outer s H E scope f c') body (t E)) (ha : PE X ea (tVar j))
    (hdb : (x == ("__debug__" : Str)) = false := by decide) (hd : (a == ("__debug__" : Str)) = false := by decide) (hcd : (a == ("__classdict__" : Str)) = false := by decide)
    (he : starEach [ea] X.env = (false, eval ea X.env) :: starEach [] X.env := by rfl) (hpl : (backTo pos (starEach [] X.env)).any (·.1) = false := by rfl) :
    PE X (.Call (.Name x p) [ea] [] pos) (fun σ H Q => σ[j]? = some (some (.ref f)) ∧ H c' = some (LamX.CodeO c' q) ∧ TT (fun E H' Q' => t E σ H' Q') H Q) := by
  refine ⟨fun pins s σ H Q I h => wpAny_Call_Name_kw (ld_glob I hg hm (PySem.W.callWith_K I.ok.mod.kin hk ?_ he hpl) hdb)⟩
  subst hq
  obtain ⟨hσ, hco, hT⟩ := h
  refine thn ((pa_cons ha pa_nil he).run pos pins s σ H (fun vs H1 => vs = [.ref f] ∧ H1 = H) I ⟨_, hσ, rfl, rfl⟩) fun us s1 y => ?_
  obtain ⟨vs, H1, I1, r1, rfl, rfl⟩ := y
  obtain ⟨w, rfl, rw_⟩ := r1.one
  have rw2 : w = Value.ref f := rw_
  subst rw2
  refine ⟨I1.kIn, ?_⟩
  obtain ⟨hf, hfn, _⟩ := I1.pin _ (List.mem_append_left _ hpin)
  have rc := LamX.run_ofS (CX := C8.CX0) (E := C8.E0) (Q := Q) lk hcg Sg hr I1.env0 (hb s1 [Value.ref f] I1.kIn rfl) (show Vals [V.ref f] [Value.ref f] from .cons rfl .nil) rfl (fun hr' => by
    obtain ⟨t', ht', hq'⟩ := hG f c' s1 H1 Q (fun E H' Q' => t E σ H' Q') (fun W pn xe E p1 p2 tk hW => LamX.pe_act I1 L hf hfn hfr (hbind _ _ _ _ _) tk hW hr' (fun A outer s H hr2 => hbody A outer s H E f c' hr2) hNg hva hd hcd) hco hT
    exact ⟨t', ht'.nox, hq'⟩)
  refine wpAny_call (codeAny_mono rc fun r s2 hq => ?_)
  cases r with
  | error e => exact (show False from hq).elim
  | ok fl =>
    cases fl with
    | next => exact (show False from hq).elim
    | brk => exact (show False from hq).elim
    | cont => exact (show False from hq).elim
    | ret u => exact I1.after hq
theorem pe_or2 {X : Cx} {e : Expr} {t u : TE} (h1 : PE X e t) (h2 : PE X e u) : PE X e (fun σ H Q => t σ H Q ∨ u σ H Q) := ⟨fun pins s σ H Q I h => h.elim (fun h => h1.run pins s σ H Q I h) (fun h => h2.run pins s σ H Q I h)⟩
end
end WB
namespace WB
open PySem PySem.Spec PyProof.Rows L2
/-! ### objects: fields, methods, new ones -/
section
variable {X : Cx} (K : PySem.W.Frag) {e o value : Expr} {f : Str} {pos pos' tpos : Pos} {ta tv : TE} {op : Operator} {rd : V → V → Hp → VK → Prop}
theorem pe_fldK (h : X.K = K) (he : PE X e ta) (hb : attributeBase e f X.env (eval e X.env) = eval e X.env := by rfl) : PE X (.Attribute e f pos) (tFld K ta f) := by subst h; exact pe_fld he hb
theorem ps_fldK (h : X.K = K) (ho : PE X o ta) (hv : PE X value tv) (hs : swapsWith value (some (.Attribute o f pos')) pos.line X.env = pure false := by rfl) : PS X (.Assign [.Attribute o f pos'] value pos) (sFld K ta tv f) := by subst h; exact ps_fld ho hv hs
theorem ps_fldaugK (h : X.K = K) (ho : PE X o ta) (hv : PE X value tv) (hop : InOp X op rd) : PS X (.AugAssign (.Attribute o f tpos) op value pos) (sFldAug K ta tv rd f) := by subst h; exact ps_fldaug ho hv hop
def rTupK (K : PySem.W.Frag) : List V → Hp → VK → Prop := fun xs H Q => ∃ p ys, xs = [.ref p] ∧ ((SqL K H p ys ∧ ∀ l, H l = none → Q (.ref l) (upd H l (.tup ys))) ∨ (SqT K H p ys ∧ Q (.ref p) H))
theorem call_tupleK (h : X.K = K) : CallR X (.type "tuple") (rTupK K) := by subst h; exact call_tuple_of
end
/-- a method of the class at C -/
def CalM (CX : CXT) (P : Program) (w : World) (K : PySem.W.Frag) (mg : Str → Option Value) (base : Heap) (k : Nat) (C : Addr) (m : Str) (ps : List Str) (sp : Sp) : Prop :=
  ∃ (f : Addr) (fd : FuncData), Cls K C ∧ Meth K C m f ∧ FnOk P w K mg base CX k f fd ps sp ∧ Binds K fd ps []
theorem CalM.mono {CX : CXT} {P : Program} {w : World} {K : PySem.W.Frag} {mg : Str → Option Value} {base : Heap} {j k : Nat} {C : Addr} {m : Str} {ps : List Str} {sp : Sp} (c : CalM CX P w K mg base j C m ps sp) (h : j ≤ k) : CalM CX P w K mg base k C m ps sp := by
  obtain ⟨f, fd, a, b, d, e⟩ := c
  exact ⟨f, fd, a, b, d.mono h, e⟩
/-- new things of the class at C -/
def CalN (P : Program) (w : World) (K : PySem.W.Frag) (mg : Str → Option Value) (base : Heap) (k : Nat) (nm : Str) (C : Addr) (ps : List Str) (sp : Sp) : Prop :=
  ∃ (f : Addr) (fd : FuncData), Mk K C f ∧ FnOk P w K mg base CX0 k f fd ps sp ∧ mg nm = some (.ref C) ∧ Binds K fd ps []
theorem CalN.mono {P : Program} {w : World} {K : PySem.W.Frag} {mg : Str → Option Value} {base : Heap} {j k : Nat} {nm : Str} {C : Addr} {ps : List Str} {sp : Sp} (c : CalN P w K mg base j nm C ps sp) (h : j ≤ k) : CalN P w K mg base k nm C ps sp := by
  obtain ⟨f, fd, a, b, d, e⟩ := c
  exact ⟨f, fd, a, b.mono h, d, e⟩
section
variable {X : Cx} {k : Nat} {C : Addr} {m nm : Str} {ps : List Str} {sp : Sp} {E : XK} {pos apos p : Pos} {e o : Expr} {es : List Expr} {ta : TE} {t : TA} {pl : Sem Bool}
theorem pe_methC (ho : PE X o ta) (c : CalM CX0 X.prog X.w X.K X.mg X.base k C m ps sp) (hr : Room k X.A) (ha : PA X (e :: es) t) (hs : starEach (e :: es) X.env = (false, eval e X.env) :: starEach es X.env := by rfl) (hpl : (backTo pos (starEach es X.env)).any (·.1) = false := by rfl)
    (hc : eval (.Call (.Attribute o m apos) (e :: es) [] pos) X.env = (do
      let ov ← eval o X.env
      standAt apos.atName
      let (f, first) ← holding [ov] (getMethod ov m pl)
      callWith pos f first (backTo pos (starEach (e :: es) X.env)) (backToKw pos (keywordEach [] X.env))) := by rfl) : PE X (.Call (.Attribute o m apos) (e :: es) [] pos) (tMeth C m sp [] E0 ta t) := by
  obtain ⟨f, fd, a, b, d, g⟩ := c
  exact pe_meth ho a b d hr g .nil pass0 ha hs hpl hc
theorem pe_methC0 (ho : PE X o ta) (c : CalM CX0 X.prog X.w X.K X.mg X.base k C m ps sp) (hr : Room k X.A)
    (hc : eval (.Call (.Attribute o m apos) [] [] pos) X.env = (do
      let ov ← eval o X.env
      standAt apos.atName
      let (f, first) ← holding [ov] (getMethod ov m pl)
      callWith pos f first (backTo pos (starEach [] X.env)) (backToKw pos (keywordEach [] X.env))) := by rfl) : PE X (.Call (.Attribute o m apos) [] [] pos) (tMeth C m sp [] E0 ta tNil) := by
  obtain ⟨f, fd, a, b, d, g⟩ := c
  exact pe_meth0 ho a b d hr g .nil pass0 hc
/-- a method that may let an exception out, where it lets out none -/
theorem pe_methF (ho : PE X o ta) (c : CalM (L2.CX X.prog X.w) X.prog X.w X.K X.mg X.base k C m ps sp) (hr : Room k X.A) (ha : PA X (e :: es) t) (hs : starEach (e :: es) X.env = (false, eval e X.env) :: starEach es X.env := by rfl) (hpl : (backTo pos (starEach es X.env)).any (·.1) = false := by rfl)
    (hc : eval (.Call (.Attribute o m apos) (e :: es) [] pos) X.env = (do
      let ov ← eval o X.env
      standAt apos.atName
      let (f, first) ← holding [ov] (getMethod ov m pl)
      callWith pos f first (backTo pos (starEach (e :: es) X.env)) (backToKw pos (keywordEach [] X.env))) := by rfl) : PE X (.Call (.Attribute o m apos) (e :: es) [] pos) (tMeth C m sp [] E0 ta t) := by
  obtain ⟨f, fd, a, b, d, g⟩ := c
  exact pe_meth ho a b d hr g .nil passL ha hs hpl hc
theorem pe_methP (ho : PE X o ta) (c : CalM (L2.CX X.prog X.w) X.prog X.w X.K X.mg X.base k C m ps sp) (hr : Room k X.A) (hx : Passes (L2.CX X.prog X.w) X E) (ha : PA X (e :: es) t) (hs : starEach (e :: es) X.env = (false, eval e X.env) :: starEach es X.env := by rfl) (hpl : (backTo pos (starEach es X.env)).any (·.1) = false := by rfl)
    (hc : eval (.Call (.Attribute o m apos) (e :: es) [] pos) X.env = (do
      let ov ← eval o X.env
      standAt apos.atName
      let (f, first) ← holding [ov] (getMethod ov m pl)
      callWith pos f first (backTo pos (starEach (e :: es) X.env)) (backToKw pos (keywordEach [] X.env))) := by rfl) : PE X (.Call (.Attribute o m apos) (e :: es) [] pos) (tMeth C m sp [] E ta t) := by
  obtain ⟨f, fd, a, b, d, g⟩ := c
  exact pe_meth ho a b d hr g .nil hx ha hs hpl hc
theorem pe_makeC0 (c : CalN X.prog X.w X.K X.mg X.base k nm C ps sp) (hr : Room (k + 1) X.A) (hg : Gl X nm) (hdb : (nm == ("__debug__" : Str)) = false := by decide) : PE X (.Call (.Name nm p) [] [] pos) (tMake C sp [] E0 tNil) := by
  obtain ⟨f, fd, a, b, d, g⟩ := c
  exact pe_make0 a b hr hg d g .nil pass0 hdb
end
/-! ### heaps that keep their lists -/
/-- lists, tuples and what is held still stay -/
def Lk (H H' : Hp) : Prop := ∀ a o, H a = some o → (∃ xs, o = .lst xs) ∨ (∃ xs, o = .tup xs) ∨ (∃ u v, o = .frz u v) → H' a = some o
section
variable {K : PySem.W.Frag}
theorem lk_l {H H' : Hp} {a : Addr} {xs : List V} (e : Lk H H') (h : SqL K H a xs) : SqL K H' a xs := by
  rcases h with (h | ⟨o, h⟩) | h
  · exact .inl (.inl (e _ _ h (.inl ⟨_, rfl⟩)))
  · exact .inl (.inr ⟨o, e _ _ h (.inr (.inr ⟨_, _, rfl⟩))⟩)
  · exact .inr h
theorem lk_t {H H' : Hp} {a : Addr} {xs : List V} (e : Lk H H') (h : SqT K H a xs) : SqT K H' a xs := by
  rcases h with (h | ⟨o, h⟩) | h
  · exact .inl (.inl (e _ _ h (.inr (.inl ⟨_, rfl⟩))))
  · exact .inl (.inr ⟨o, e _ _ h (.inr (.inr ⟨_, _, rfl⟩))⟩)
  · exact .inr h
mutual
theorem dp_lk {H H' : Hp} (e : Lk H H') : ∀ {d : PyData} {x : V}, Dp K H x d → Dp K H' x d
  | _, _, .non => .non
  | _, _, .bl b => .bl b
  | _, _, .int i => .int i
  | _, _, .str s => .str s
  | _, _, .lst hs ha => .lst (lk_l e hs) (dpa_lk e ha)
  | _, _, .tup hs ha => .tup (lk_t e hs) (dpa_lk e ha)
theorem dpa_lk {H H' : Hp} (e : Lk H H') : ∀ {ds : List PyData} {xs : List V}, DpAll K H xs ds → DpAll K H' xs ds
  | _, _, .nil => .nil
  | _, _, .cons h t => .cons (dp_lk e h) (dpa_lk e t)
end
theorem lk_mv {b : Addr} {H H' : Hp} (m : Mv b H H') (h : ∀ o, H b = some o → ¬ ((∃ xs, o = .lst xs) ∨ (∃ xs, o = .tup xs) ∨ (∃ u v, o = .frz u v))) : Lk H H' := fun a o e k => m a o (fun z => by subst z; exact h o e k) e
theorem lk_same {H H' : Hp} (s : Same H H') : Lk H H' := fun a o e _ => s a o e
end
end WB
namespace WB
open PySem PySem.Spec PyProof.Rows L2
/-! ### things that stand apart in the heap -/
/-- all but what stands at F stays, and nothing vanishes -/
structure MvF (F : List Addr) (H H' : Hp) : Prop where
  kp : ∀ a o, a ∉ F → H a = some o → H' a = some o
  al : ∀ a, H' a = none → H a = none
theorem al_same {H H' : Hp} (s : Same H H') : ∀ a, H' a = none → H a = none := fun _ h => s.free h
theorem al_upd {H H' : Hp} {p : Addr} {o : HO} (s : ∀ a, H' a = none → H a = none) : ∀ a, upd H' p o a = none → H a = none := fun a h => by
  by_cases z : a = p
  · rw [z, upd_same] at h
    cases h
  · rw [upd_ne z] at h
    exact s a h
theorem al_mv {H H' : Hp} {p : Addr} {o : HO} (m : Mv p H H') (e : H' p = some o) : ∀ a, H' a = none → H a = none := fun a h => by
  by_cases z : a = p
  · rw [z, e] at h
    cases h
  · exact m.none z h
section
variable {F : List Addr} {H H' H1 H2 : Hp}
theorem MvF.refl (F : List Addr) (H : Hp) : MvF F H H := ⟨fun _ _ _ h => h, fun _ h => h⟩
theorem MvF.of (s : Same H H') : MvF F H H' := ⟨fun a o _ h => s a o h, al_same s⟩
theorem MvF.mv {p : Addr} {o : HO} (m : Mv p H H') (e : H' p = some o) (hp : p ∈ F) : MvF F H H' := ⟨fun a u n h => m a u (fun z => n (z ▸ hp)) h, al_mv m e⟩
theorem MvF.trans (m : MvF F H H1) (m' : MvF F H1 H2) : MvF F H H2 := ⟨fun a o n h => m'.kp a o n (m.kp a o n h), fun a h => m.al a (m'.al a h)⟩
theorem MvF.upd {p : Addr} {o : HO} (m : MvF F H H') (hp : p ∈ F) : MvF F H (L2.upd H' p o) := ⟨fun a u n h => by rw [upd_ne (fun z : a = p => n (by rw [z]; exact hp))]; exact m.kp a u n h, al_upd m.al⟩
theorem MvF.wide {G : List Addr} (m : MvF F H H') (h : ∀ a ∈ F, a ∈ G) : MvF G H H' := ⟨fun a o n e => m.kp a o (fun z => n (h a z)) e, m.al⟩
/-- where the second one's places are the first one's, or new -/
theorem MvF.trans2 {G : List Addr} (m : MvF F H H1) (m' : MvF G H1 H2) (hg : ∀ a ∈ G, a ∈ F ∨ H a = none) : MvF F H H2 := by
  refine ⟨fun a o n e => m'.kp a o (fun z => ?_) (m.kp a o n e), fun a h => m.al a (m'.al a h)⟩
  rcases hg a z with y | y
  · exact n y
  · rw [y] at e
    cases e
theorem MvF.same (m : MvF F H H') (s : Same H' H1) : MvF F H H1 := m.trans (.of s)
theorem MvF.new (m : MvF F H H') {p : Addr} {o : HO} (n : H' p = none) : MvF F H (L2.upd H' p o) := m.same (same_upd n)
theorem MvF.free (m : MvF F H H') {p : Addr} (h : H' p = none) : H p = none := m.al p h
theorem MvF.toSame (m : MvF [] H H') : Same H H' := fun a o h => m.kp a o List.not_mem_nil h
end
/-- no table of code, no thing of the machine's own -/
def plain : HO → Prop
  | .tbl _ => False
  | .ext _ => False
  | _ => True
structure Th where
  ft : List Addr
  P : Hp → Prop
  loc : ∀ H H' : Hp, (∀ a ∈ ft, ∀ o, H a = some o → H' a = some o) → P H → P H'
  al : ∀ H, P H → ∀ a ∈ ft, ∃ o, H a = some o ∧ plain o
/-- these things stand apart, and the tables of code are as they were -/
structure Hs (T : List (Addr × Str)) (Ts : List Th) (H : Hp) : Prop where
  all : ∀ (i : Nat) (T : Th), Ts[i]? = some T → T.P H
  sep : ∀ (i j : Nat) (x y : Th), i ≠ j → Ts[i]? = some x → Ts[j]? = some y → ∀ a ∈ x.ft, a ∉ y.ft
  tab : LamX.Tabs T H
theorem Th.live (T : Th) {H : Hp} (h : T.P H) {a : Addr} (ha : a ∈ T.ft) : H a ≠ none := by
  obtain ⟨o, e, _⟩ := T.al H h a ha
  rw [e]
  exact fun z => nomatch z
theorem tabs_keep {T : List (Addr × Str)} {H H' : Hp} (t : LamX.Tabs T H) (h : ∀ a o, H a = some o → ¬ plain o → H' a = some o) : LamX.Tabs T H' := fun p hp => by
  obtain ⟨ps, h1, h2, h3⟩ := t p hp
  refine ⟨ps, h _ _ h1 (fun z => z), h2, fun pos cv hc => ?_⟩
  obtain ⟨c, e1, e2⟩ := h3 pos cv hc
  exact ⟨c, e1, h _ _ e2 (fun z => z)⟩
section
variable {T0 : List (Addr × Str)} {Ts Ts' : List Th} {T T' N : Th} {H H' : Hp}
theorem Hs.nil (t : LamX.Tabs T0 H) : Hs T0 [] H := ⟨fun i T h => (by cases h), fun i j x y _ h => (by cases h), t⟩
theorem Hs.nil0 : Hs [] [] H := .nil (fun p hp => absurd hp List.not_mem_nil)
theorem Hs.get (h : Hs T0 Ts H) (i : Nat) (hi : Ts[i]? = some T) : T.P H := h.all i T hi
theorem Hs.same (h : Hs T0 Ts H) (s : Same H H') : Hs T0 Ts H' := ⟨fun i T hi => T.loc H H' (fun a _ o e => s a o e) (h.all i T hi), h.sep, h.tab.ext s⟩
/-- a lambda was made -/
theorem Hs.extN (h : Hs T0 Ts H) (e : LamX.ExtN H H') (t : LamX.Tabs T0 H') : Hs T0 Ts H' := ⟨fun i T hi => T.loc H H' (fun a ha o q => e a o q (fun ps z => by
  obtain ⟨o', e1, e2⟩ := T.al H (h.all i T hi) a ha
  rw [e1] at q
  cases q
  rw [z] at e2
  exact e2)) (h.all i T hi), h.sep, t⟩
theorem Hs.ne (h : Hs T0 Ts H) (i j : Nat) {x y : Th} (hi : Ts[i]? = some x) (hj : Ts[j]? = some y) {a b : Addr} (ha : a ∈ x.ft) (hb : b ∈ y.ft) (n : i ≠ j := by decide) : a ≠ b := fun z => h.sep i j x y n hi hj a ha (z ▸ hb)
theorem Hs.keep (h : Hs T0 Ts H) {i j : Nat} {x : Th} {F : List Addr} (hi : Ts[i]? = some T) (hj : Ts[j]? = some x) (n : j ≠ i) (m : MvF F H H') (hF : ∀ a ∈ F, a ∈ T.ft ∨ H a = none) : x.P H' := by
  refine x.loc H H' (fun a ha o e => m.kp a o (fun z => ?_) e) (h.all j x hj)
  rcases hF a z with y | y
  · exact h.sep j i x T n hj hi a ha y
  · rw [y] at e
    cases e
theorem Hs.op {F : List Addr} (h : Hs T0 Ts H) (i : Nat) (hi : Ts[i]? = some T) (m : MvF F H H') (hF : ∀ a ∈ F, a ∈ T.ft ∨ H a = none) (hp : T'.P H') (hf : ∀ a ∈ T'.ft, a ∈ T.ft ∨ H a = none) : Hs T0 (Ts.set i T') H' := by
  have hil : i < Ts.length := (List.getElem?_eq_some_iff.mp hi).1
  have new : ∀ (j : Nat) (y : Th), j ≠ i → Ts[j]? = some y → ∀ a ∈ T'.ft, a ∉ y.ft := fun j y n hj a ha z => by
    rcases hf a ha with q | q
    · exact h.sep i j T y n.symm hi hj a q z
    · exact y.live (h.all j y hj) z q
  refine ⟨fun j x hj => ?_, fun j k x y n hj hk => ?_, tabs_keep h.tab fun a o e np => m.kp a o (fun z => ?_) e⟩
  · rw [List.getElem?_set] at hj
    by_cases z : i = j
    · rw [if_pos z, if_pos (z ▸ hil)] at hj
      cases hj
      exact hp
    · rw [if_neg z] at hj
      exact h.keep hi hj (fun q => z q.symm) m hF
  · rw [List.getElem?_set] at hj hk
    by_cases z : i = j
    · rw [if_pos z, if_pos (z ▸ hil)] at hj
      rw [if_neg (fun q => n (z.symm.trans q))] at hk
      cases hj
      exact new k y (fun q => n (z.symm.trans q.symm)) hk
    · rw [if_neg z] at hj
      by_cases z2 : i = k
      · rw [if_pos z2, if_pos (z2 ▸ hil)] at hk
        cases hk
        exact fun a ha hb => new j x (fun q => z q.symm) hj a hb ha
      · rw [if_neg z2] at hk
        exact h.sep j k x y n hj hk
  · rcases hF a z with y | y
    · obtain ⟨o', e1, e2⟩ := T.al H (h.all i T hi) a y
      rw [e1] at e
      cases e
      exact np e2
    · rw [y] at e
      cases e
theorem Hs.cons (h : Hs T0 Ts H) (hp : T.P H) (hf : ∀ (j : Nat) (y : Th), Ts[j]? = some y → ∀ a ∈ T.ft, a ∉ y.ft) : Hs T0 (T :: Ts) H := by
  refine ⟨fun j x hj => ?_, fun j k x y n hj hk => ?_, h.tab⟩
  · cases j with
    | zero => cases hj; exact hp
    | succ j => exact h.all j x hj
  · cases j with
    | zero =>
      cases hj
      cases k with
      | zero => exact absurd rfl n
      | succ k => exact hf k y hk
    | succ j =>
      cases k with
      | zero =>
        cases hk
        exact fun a ha hb => hf j x hj a hb ha
      | succ k => exact h.sep j k x y (fun q => n (congrArg (· + 1) q)) hj hk
theorem Hs.new (h : Hs T0 Ts H) (s : Same H H') (hp : T.P H') (hf : ∀ a ∈ T.ft, H a = none) : Hs T0 (T :: Ts) H' :=
  (h.same s).cons hp fun j y hj a ha hb => y.live (h.all j y hj) hb (hf a ha)
/-- a thing changes, and a new one comes -/
theorem Hs.opNew {F : List Addr} (h : Hs T0 Ts H) (i : Nat) (hi : Ts[i]? = some T) (m : MvF F H H') (hF : ∀ a ∈ F, a ∈ T.ft ∨ H a = none) (hp : T'.P H') (hf : ∀ a ∈ T'.ft, a ∈ T.ft ∨ H a = none) (hn : N.P H') (hnf : ∀ a ∈ N.ft, H a = none ∧ a ∉ T'.ft) : Hs T0 (N :: Ts.set i T') H' := by
  refine (h.op i hi m hF hp hf).cons hn fun j y hj a ha hb => ?_
  rw [List.getElem?_set] at hj
  by_cases z : i = j
  · rw [if_pos z, if_pos (z ▸ (List.getElem?_eq_some_iff.mp hi).1)] at hj
    cases hj
    exact (hnf a ha).2 hb
  · rw [if_neg z] at hj
    exact y.live (h.all j y hj) hb (hnf a ha).1
/-- these places of the list, in this order -/
def pickTs (Ts : List Th) : List Nat → List Th
  | [] => []
  | i :: r => match Ts[i]? with
    | some x => x :: pickTs Ts r
    | none => pickTs Ts r
theorem mem_pick : ∀ {is : List Nat} {k : Nat} {x : Th}, (pickTs Ts is)[k]? = some x → ∃ i ∈ is, Ts[i]? = some x
  | [], k, x, h => by cases h
  | i :: r, k, x, h => by
    unfold pickTs at h
    cases e : Ts[i]? with
    | none =>
      rw [e] at h
      obtain ⟨j, hj, q⟩ := mem_pick h
      exact ⟨j, .tail _ hj, q⟩
    | some y =>
      rw [e] at h
      cases k with
      | zero => cases h; exact ⟨i, .head _, e⟩
      | succ k =>
        obtain ⟨j, hj, q⟩ := mem_pick (k := k) h
        exact ⟨j, .tail _ hj, q⟩
theorem Hs.sel (h : Hs T0 Ts H) : ∀ (is : List Nat), is.Nodup → Hs T0 (pickTs Ts is) H
  | [], _ => .nil h.tab
  | i :: r, hn => by
    have hn := List.nodup_cons.mp hn
    have t := h.sel r hn.2
    unfold pickTs
    cases e : Ts[i]? with
    | none => exact t
    | some x =>
      refine t.cons (h.all i x e) fun j y hj => ?_
      obtain ⟨k, hk, q⟩ := mem_pick hj
      exact h.sep i k x y (fun z => hn.1 (z ▸ hk)) e q
theorem Hs.tail {x : Th} (h : Hs T0 (x :: Ts) H) : Hs T0 Ts H := ⟨fun i T hi => h.all (i + 1) T hi, fun i j x y n hi hj => h.sep (i + 1) (j + 1) x y (by omega) hi hj, h.tab⟩
theorem Hs.head {x : Th} (h : Hs T0 (x :: Ts) H) : x.P H := h.all 0 x rfl
theorem Hs.apart {x y : Th} (h : Hs T0 (x :: Ts) H) (hy : y ∈ Ts) : ∀ a ∈ x.ft, a ∉ y.ft := by
  obtain ⟨j, hj⟩ := List.getElem?_of_mem hy
  exact h.sep 0 (j + 1) x y (by omega) rfl hj
theorem Hs.swap {x y : Th} (h : Hs T0 (x :: y :: Ts) H) : Hs T0 (y :: x :: Ts) H :=
  (h.tail.tail.cons h.head fun j z hj => h.apart (.tail _ (List.mem_of_getElem? hj))).cons h.tail.head fun j z hj a ha hb => by
    rcases List.mem_cons.mp (List.mem_of_getElem? hj) with rfl | hm
    · exact h.apart (.head _) a hb ha
    · exact h.tail.apart hm a ha hb
theorem Hs.perm (p : Ts.Perm Ts') : ∀ {H : Hp}, Hs T0 Ts H → Hs T0 Ts' H := by
  induction p with
  | nil => exact fun h => h
  | cons x q ih => exact fun h => (ih h.tail).cons h.head fun j y hj => h.apart (q.mem_iff.mpr (List.mem_of_getElem? hj))
  | swap x y l => exact fun h => h.swap
  | trans _ _ ih1 ih2 => exact fun h => ih2 (ih1 h)
/-- two things seen as one -/
theorem Hs.merge {A B C : Th} (h : Hs T0 (A :: B :: Ts) H) (hp : C.P H) (hf : ∀ a ∈ C.ft, a ∈ A.ft ∨ a ∈ B.ft) : Hs T0 (C :: Ts) H :=
  h.tail.tail.cons hp fun j y hj a ha hb => (hf a ha).elim (fun z => h.apart (.tail _ (List.mem_of_getElem? hj)) a z hb) (fun z => h.tail.apart (List.mem_of_getElem? hj) a z hb)
theorem Hs.drop1 {x y : Th} (h : Hs T0 (x :: y :: Ts) H) : Hs T0 (x :: Ts) H := h.swap.tail
theorem Hs.drop2 {x y z : Th} (h : Hs T0 (x :: y :: z :: Ts) H) : Hs T0 (x :: y :: Ts) H := h.tail.drop1.cons h.head fun j u hj => by
  rcases List.mem_cons.mp (List.mem_of_getElem? hj) with rfl | hm
  · exact h.apart (.head _)
  · exact h.apart (.tail _ (.tail _ hm))
theorem Hs.drop3 {x y z u : Th} (h : Hs T0 (x :: y :: z :: u :: Ts) H) : Hs T0 (x :: y :: z :: Ts) H := h.tail.drop2.cons h.head fun j v hj => by
  rcases List.mem_cons.mp (List.mem_of_getElem? hj) with rfl | hm
  · exact h.apart (.head _)
  rcases List.mem_cons.mp hm with rfl | hm
  · exact h.apart (.tail _ (.head _))
  · exact h.apart (.tail _ (.tail _ (.tail _ hm)))
end
/-! ### the commonest things -/
/-- what stands at a -/
def tO (a : Addr) (o : HO) : Th := ⟨[a], fun H => H a = some o ∧ plain o, fun H H' k h => ⟨k a (.head _) o h.1, h.2⟩, fun H h b hb => by rw [List.mem_singleton.mp hb]; exact ⟨o, h⟩⟩
abbrev tL (a : Addr) (xs : List V) : Th := tO a (.lst xs)
theorem Bag.al {b : Addr × Addr} {H : Hp} (g : Bag b H) : H b.1 ≠ none ∧ H b.2 ≠ none := by
  obtain ⟨ns, i, r, x, c, h1, h2, _⟩ := g
  exact ⟨(by rw [h1]; exact fun z => nomatch z), (by rw [h2]; exact fun z => nomatch z)⟩
def tB (b : Addr × Addr) : Th := ⟨[b.1, b.2], Bag b, fun H H' k h => by
  obtain ⟨ns, i, r, x, c, h1, h2, h3⟩ := h
  exact ⟨ns, i, r, x, c, k _ (.head _) _ h1, k _ (.tail _ (.head _)) _ h2, h3⟩, fun H h a ha => by
  obtain ⟨ns, i, r, x, c, h1, h2, h3⟩ := h
  rcases List.mem_cons.mp ha with rfl | ha
  · exact ⟨_, h1, trivial⟩
  · rw [List.mem_singleton.mp ha]
    exact ⟨_, h2, trivial⟩⟩
theorem in1 {a p : Addr} (h : a ∈ [p]) : a = p := List.mem_singleton.mp h
section
variable {T0 : List (Addr × Str)} {b : Addr × Addr} {Ts : List Th} {H H' : Hp} {p : Addr} {o o' : HO}
theorem Hs.bag (h : Hs T0 (tB b :: Ts) H) : Bag b H := h.get 0 rfl
theorem mvf_bag (m : Mv b.1 H H') (g : Bag b H') : MvF [b.1, b.2] H H' := by
  obtain ⟨ns, i, r, x, c, h1, h2, h3⟩ := g
  exact .mv m h1 (.head _)
theorem Hs.mv (h : Hs T0 (tB b :: Ts) H) (m : Mv b.1 H H') (g : Bag b H') : Hs T0 (tB b :: Ts) H' := h.op (T := tB b) (T' := tB b) 0 rfl (mvf_bag m g) (fun a ha => .inl ha) g (fun a ha => .inl ha)
/-- a draw that tells a new thing -/
theorem Hs.newM (h : Hs T0 (tB b :: Ts) H) (m : Mv b.1 H H') (g : Bag b H') (n : H p = none) (e : H' p = some o) (pl : plain o := by exact trivial) : Hs T0 (tB b :: tO p o :: Ts) H' := by
  have h2 : Hs T0 (tO p o :: tB b :: Ts) H' := (h.opNew (T := tB b) (T' := tB b) (N := tO p o) 0 rfl (mvf_bag m g) (fun a ha => .inl ha) g (fun a ha => .inl ha) ⟨e, pl⟩ (fun a ha => by
    rw [in1 ha]
    refine ⟨n, fun z => ?_⟩
    rcases List.mem_cons.mp z with z | z
    · exact (h.bag.al.1) (z ▸ n)
    · exact (h.bag.al.2) (in1 z ▸ n)))
  exact h2.swap
/-- a new thing at the head -/
theorem Hs.newH (h : Hs T0 Ts H) (s : Same H H') (n : H p = none) (e : H' p = some o) (pl : plain o := by exact trivial) : Hs T0 (tO p o :: Ts) H' := h.new (T := tO p o) s ⟨e, pl⟩ (fun a ha => by rw [in1 ha]; exact n)
theorem Hs.newHU (h : Hs T0 Ts H) (n : H p = none) (pl : plain o := by exact trivial) : Hs T0 (tO p o :: Ts) (upd H p o) := h.newH (same_upd n) n upd_same pl
/-- a new thing, put behind the bag -/
theorem Hs.newB (h : Hs T0 (tB b :: Ts) H) (s : Same H H') (n : H p = none) (e : H' p = some o) (pl : plain o := by exact trivial) : Hs T0 (tB b :: tO p o :: Ts) H' := (h.newH s n e pl).swap
theorem Hs.newU (h : Hs T0 (tB b :: Ts) H) (n : H p = none) (pl : plain o := by exact trivial) : Hs T0 (tB b :: tO p o :: Ts) (upd H p o) := h.newB (same_upd n) n upd_same pl
theorem Hs.put (h : Hs T0 Ts H) (i : Nat) (hi : Ts[i]? = some (tO p o)) (pl : plain o' := by exact trivial) : Hs T0 (Ts.set i (tO p o')) (upd H p o') :=
  h.op i hi (F := [p]) ((MvF.refl [p] H).upd (.head _)) (fun a ha => .inl ha) ⟨upd_same, pl⟩ (fun a ha => .inl ha)
theorem Hs.at (h : Hs T0 Ts H) (i : Nat) (hi : Ts[i]? = some (tO p o)) : H p = some o := (h.get i hi).1
end
/-! ### groups: several things seen as one -/
theorem sep_flat {Ts : List Th} {H : Hp} (h : Hs [] Ts H) : ∀ a ∈ Ts.flatMap (·.ft), ∃ o, H a = some o ∧ plain o := fun a ha => by
  obtain ⟨T, hT, ha⟩ := List.mem_flatMap.mp ha
  obtain ⟨i, hi⟩ := List.getElem?_of_mem hT
  exact T.al H (h.all i T hi) a ha
def tG (Ts : List Th) : Th := ⟨Ts.flatMap (·.ft), fun H => Hs [] Ts H, fun H H' k h => ⟨fun i T hi => T.loc H H' (fun a ha => k a (List.mem_flatMap.mpr ⟨T, List.mem_of_getElem? hi, ha⟩)) (h.all i T hi), h.sep, fun p hp => absurd hp List.not_mem_nil⟩, fun H h a ha => sep_flat h a ha⟩
section
variable {T0 : List (Addr × Str)} {Ts Gs : List Th} {H : Hp}
theorem Hs.tabs0 (h : Hs T0 Ts H) : Hs [] Ts H := ⟨h.all, h.sep, fun p hp => absurd hp List.not_mem_nil⟩
theorem Hs.app : ∀ {As : List Th}, Hs [] As H → Hs T0 Ts H → (∀ x ∈ As, ∀ y ∈ Ts, ∀ a ∈ x.ft, a ∉ y.ft) → Hs T0 (As ++ Ts) H
  | [], _, h, _ => h
  | A :: As, g, h, d => (Hs.app g.tail h (fun x hx => d x (.tail _ hx))).cons g.head fun j y hj a ha hb => by
    rcases List.mem_append.mp (List.mem_of_getElem? hj) with hm | hm
    · exact g.apart hm a ha hb
    · exact d A (.head _) y hm a ha hb
theorem Hs.left : ∀ {As : List Th}, Hs T0 (As ++ Ts) H → Hs [] As H
  | [], _ => .nil (fun p hp => absurd hp List.not_mem_nil)
  | A :: As, h => (Hs.left (As := As) h.tail).cons h.head fun j y hj => h.apart (List.mem_append_left _ (List.mem_of_getElem? hj))
theorem Hs.right : ∀ {As : List Th}, Hs T0 (As ++ Ts) H → Hs T0 Ts H
  | [], h => h
  | _ :: As, h => Hs.right (As := As) h.tail
theorem Hs.cross : ∀ {As : List Th}, Hs T0 (As ++ Ts) H → ∀ x ∈ As, ∀ y ∈ Ts, ∀ a ∈ x.ft, a ∉ y.ft
  | A :: As, h, x, hx, y, hy => by
    rcases List.mem_cons.mp hx with rfl | hx
    · exact h.apart (List.mem_append_right _ hy)
    · exact Hs.cross (As := As) h.tail x hx y hy
theorem Hs.ungroup (h : Hs T0 (tG Ts :: Gs) H) : Hs T0 (Ts ++ Gs) H := Hs.app h.head h.tail (fun x hx y hy a ha hb => h.apart hy a (List.mem_flatMap.mpr ⟨x, hx, ha⟩) hb)
theorem Hs.group (h : Hs T0 (Ts ++ Gs) H) : Hs T0 (tG Ts :: Gs) H := h.right.cons h.left fun j y hj a ha hb => by
  obtain ⟨x, hx, ha⟩ := List.mem_flatMap.mp ha
  exact h.cross x hx y (List.mem_of_getElem? hj) a ha hb
end
section
variable {α : Type} {T0 : List (Addr × Str)} {As : List Th} {Y : List α} {f : α → Th} {w : Nat} {y y' : α} {H : Hp}
theorem perm_at : ∀ {Y : List α} {w : Nat} {y : α}, Y[w]? = some y → (y :: Y.eraseIdx w).Perm Y
  | x :: Y, 0, y, h => by cases h; exact .refl _
  | x :: Y, w + 1, y, h => (List.Perm.swap x y _).trans (.cons x (perm_at (Y := Y) (w := w) h))
theorem erase_set : ∀ (Y : List α) (w : Nat) (y : α), (Y.set w y).eraseIdx w = Y.eraseIdx w
  | [], _, _ => rfl
  | x :: Y, 0, y => rfl
  | x :: Y, w + 1, y => congrArg (x :: ·) (erase_set Y w y)
/-- the w-th one to the head -/
theorem Hs.front (h : Hs T0 (As ++ Y.map f) H) (hy : Y[w]? = some y) : Hs T0 (f y :: (As ++ (Y.eraseIdx w).map f)) H := by
  refine h.perm (List.Perm.trans ?_ List.perm_middle)
  exact .append_left As ((perm_at hy).map f).symm
theorem Hs.back (h : Hs T0 (f y' :: (As ++ (Y.eraseIdx w).map f)) H) (hw : w < Y.length) : Hs T0 (As ++ (Y.set w y').map f) H := by
  have hy : (Y.set w y')[w]? = some y' := by rw [List.getElem?_set, if_pos rfl, if_pos hw]
  have := perm_at hy
  rw [erase_set] at this
  refine h.perm (List.Perm.trans List.perm_middle.symm ?_)
  exact .append_left As (this.map f)
end
end WB
namespace WB
open PySem PySem.Spec PyProof.Rows L2
section
variable {X : Cx} (K : PySem.W.Frag)
theorem cr_sumK (h : X.K = K) (hc : X.calm = true) : CallR X (.builtin "sum") (rSum K) := by subst h; exact cr_sum hc
theorem cr_minK (h : X.K = K) (hc : X.calm = true) : CallR X (.builtin "min") (rMin K) := by subst h; exact cr_min hc
theorem cr_maxK (h : X.K = K) (hc : X.calm = true) : CallR X (.builtin "max") (rMax K) := by subst h; exact cr_max hc
end
/-! ### while, by an invariant and a measure -/
def wN (Pv : L2.St → Hp → Prop) (μ : L2.St → Hp → Nat) (m : Nat) : L2.St → Hp → Prop := fun σ H => Pv σ H ∧ μ σ H < m
theorem wN_ok {Pv : L2.St → Hp → Prop} {μ : L2.St → Hp → Nat} {m : Nat} : ∀ σ' H', wN Pv μ m σ' H' → ∃ m', m' < m ∧ m' = μ σ' H' ∧ Pv σ' H' := fun _ _ h => ⟨_, h.2, rfl, h.1⟩
theorem while_w {c : TT} {tb : TS} {D : Ends} {σ : L2.St} {H : Hp} (Pv : L2.St → Hp → Prop) (μ : L2.St → Hp → Nat) (h0 : Pv σ H)
    (hs : ∀ σ H, Pv σ H → c σ H fun b H1 => if b = true then ∃ N : L2.St → Hp → Prop, (∀ σ' H', N σ' H' → ∃ m', m' < μ σ H ∧ m' = μ σ' H' ∧ Pv σ' H') ∧ tb { D with nx := N, ct := N, bk := D.nx } σ H1 else D.nx σ H1) : tWhile c tb D σ H := by
  refine ⟨fun m σ H => m = μ σ H ∧ Pv σ H, ⟨_, rfl, h0⟩, ?_⟩
  rintro m σ H ⟨rfl, p⟩
  exact hs σ H p
/-! ### defs with keyword-only parameters: n written by place, keywords named ks; gV puts them in the parameters' order -/
def CalW (P : Program) (w : World) (K : PySem.W.Frag) (mg : Str → Option Value) (base : Heap) (k : Nat) (nm : Str) (ps : List Str) (n : Nat) (ks : List Str) (gV : List V → List V → List V) (sp : Sp) : Prop :=
  ∃ (f : Addr) (fd : FuncData) (g : List Value → List Value → List Value), FnOk P w K mg base (L2.CX P w) k f fd ps sp ∧ mg nm = some (.ref f) ∧ PySem.W.keepIn K (.ref f) = true ∧ KBn K fd ps n ks g gV
theorem CalW.mono {P : Program} {w : World} {K : PySem.W.Frag} {mg : Str → Option Value} {base : Heap} {j k n : Nat} {nm : Str} {ps ks : List Str} {gV : List V → List V → List V} {sp : Sp} (c : CalW P w K mg base j nm ps n ks gV sp) (h : j ≤ k) : CalW P w K mg base k nm ps n ks gV sp := by
  obtain ⟨f, fd, g, a, b, d, e⟩ := c
  exact ⟨f, fd, g, a.mono h, b, d, e⟩
/-- with the keyword-only ones left out: dvs their values -/
def CalD (P : Program) (w : World) (K : PySem.W.Frag) (mg : Str → Option Value) (base : Heap) (k : Nat) (nm : Str) (ps : List Str) (dvs : List V) (sp : Sp) : Prop :=
  ∃ (f : Addr) (fd : FuncData) (ds : List Value), FnOk P w K mg base (L2.CX P w) k f fd ps sp ∧ mg nm = some (.ref f) ∧ PySem.W.keepIn K (.ref f) = true ∧ Binds K fd ps ds ∧ Vals dvs ds
theorem CalD.mono {P : Program} {w : World} {K : PySem.W.Frag} {mg : Str → Option Value} {base : Heap} {j k : Nat} {nm : Str} {ps : List Str} {dvs : List V} {sp : Sp} (c : CalD P w K mg base j nm ps dvs sp) (h : j ≤ k) : CalD P w K mg base k nm ps dvs sp := by
  obtain ⟨f, fd, g, a, b, d, e⟩ := c
  exact ⟨f, fd, g, a.mono h, b, d, e⟩
/-- new things of the class at C, by keywords -/
def CalNW (P : Program) (w : World) (K : PySem.W.Frag) (mg : Str → Option Value) (base : Heap) (k : Nat) (nm : Str) (C : Addr) (ps ks : List Str) (gV : List V → List V → List V) (sp : Sp) : Prop :=
  ∃ (f : Addr) (fd : FuncData) (g : List Value → List Value → List Value), Mk K C f ∧ FnOk P w K mg base (L2.CX P w) k f fd ps sp ∧ mg nm = some (.ref C) ∧ KBn K fd ps 1 ks g gV
theorem CalNW.mono {P : Program} {w : World} {K : PySem.W.Frag} {mg : Str → Option Value} {base : Heap} {j k : Nat} {nm : Str} {C : Addr} {ps ks : List Str} {gV : List V → List V → List V} {sp : Sp} (c : CalNW P w K mg base j nm C ps ks gV sp) (h : j ≤ k) : CalNW P w K mg base k nm C ps ks gV sp := by
  obtain ⟨f, fd, g, a, b, d, e⟩ := c
  exact ⟨f, fd, g, a, b.mono h, d, e⟩
/-- and with the keyword-only ones left out -/
def CalND (P : Program) (w : World) (K : PySem.W.Frag) (mg : Str → Option Value) (base : Heap) (k : Nat) (nm : Str) (C : Addr) (ps : List Str) (dvs : List V) (sp : Sp) : Prop :=
  ∃ (f : Addr) (fd : FuncData) (ds : List Value), Mk K C f ∧ FnOk P w K mg base (L2.CX P w) k f fd ps sp ∧ mg nm = some (.ref C) ∧ Binds K fd ps ds ∧ Vals dvs ds
theorem CalND.mono {P : Program} {w : World} {K : PySem.W.Frag} {mg : Str → Option Value} {base : Heap} {j k : Nat} {nm : Str} {C : Addr} {ps : List Str} {dvs : List V} {sp : Sp} (c : CalND P w K mg base j nm C ps dvs sp) (h : j ≤ k) : CalND P w K mg base k nm C ps dvs sp := by
  obtain ⟨f, fd, g, a, b, d, e⟩ := c
  exact ⟨f, fd, g, a, b.mono h, d, e⟩
section
variable {X : Cx} {k n : Nat} {C : Addr} {ps ks : List Str} {sp : Sp} {E : XK} {nm : Str} {p pos : Pos} {e : Expr} {es : List Expr} {kws : List Keyword} {t tk : TA} {gV : List V → List V → List V} {dvs : List V}
theorem pe_callW (c : CalW X.prog X.w X.K X.mg X.base k nm ps n ks gV sp) (hr : Room k X.A) (hx : Passes (L2.CX X.prog X.w) X E) (hg : Gl X nm) (ha : PA X (e :: es) t) (hkw : PK X kws tk)
    (hall : (backToKw pos (keywordEach kws X.env)).all (·.1.isSome) = true := by rfl) (hks : (backToKw pos (keywordEach kws X.env)).filterMap (·.1) = ks := by rfl)
    (hdb : (nm == ("__debug__" : Str)) = false := by decide) (he : starEach (e :: es) X.env = (false, eval e X.env) :: starEach es X.env := by rfl)
    (hpl : ((backTo pos (starEach (e :: es) X.env)).any (·.1) || (backToKw pos (keywordEach kws X.env)).any (·.1.isNone)) = false := by rfl) :
    PE X (.Call (.Name nm p) (e :: es) kws pos) (tCallN n ks.length sp gV E t tk) := by
  obtain ⟨f, fd, g, a, b, d, q⟩ := c
  exact pe_callN a hr hg b d q hx ha hkw hall hks hdb he hpl
theorem pe_callWF (c : CalW X.prog X.w X.K X.mg X.base k nm ps n ks gV sp) (hr : Room k X.A) (hg : Gl X nm) (ha : PA X (e :: es) t) (hkw : PK X kws tk)
    (hall : (backToKw pos (keywordEach kws X.env)).all (·.1.isSome) = true := by rfl) (hks : (backToKw pos (keywordEach kws X.env)).filterMap (·.1) = ks := by rfl)
    (hdb : (nm == ("__debug__" : Str)) = false := by decide) (he : starEach (e :: es) X.env = (false, eval e X.env) :: starEach es X.env := by rfl)
    (hpl : ((backTo pos (starEach (e :: es) X.env)).any (·.1) || (backToKw pos (keywordEach kws X.env)).any (·.1.isNone)) = false := by rfl) :
    PE X (.Call (.Name nm p) (e :: es) kws pos) (tCallN n ks.length sp gV E0 t tk) := pe_callW c hr passL hg ha hkw hall hks hdb he hpl
/-- keywords alone -/
theorem pe_callW0 (c : CalW X.prog X.w X.K X.mg X.base k nm ps 0 ks gV sp) (hr : Room k X.A) (hx : Passes (L2.CX X.prog X.w) X E) (hg : Gl X nm) (hkw : PK X kws tk)
    (hall : (backToKw pos (keywordEach kws X.env)).all (·.1.isSome) = true := by rfl) (hks : (backToKw pos (keywordEach kws X.env)).filterMap (·.1) = ks := by rfl) (hdb : (nm == ("__debug__" : Str)) = false := by decide)
    (hpl : ((backTo pos (starEach [] X.env)).any (·.1) || (backToKw pos (keywordEach kws X.env)).any (·.1.isNone)) = false := by rfl) :
    PE X (.Call (.Name nm p) [] kws pos) (tCallN 0 ks.length sp gV E tNil tk) := by
  obtain ⟨f, fd, g, a, b, d, hb⟩ := c
  refine ⟨fun pins s σ H Q I h => wpAny_Call_Name_kw (ld_glob I hg b ?_ hdb)⟩
  refine PySem.W.callWith_KW0 (I.ok.mod.kin) d hall (thn (hkw.run pos pins s σ H _ I h) fun ws s2 x => ?_) hpl
  obtain ⟨zs, H2, I2, rz, l1, l2, q2⟩ := x
  refine ⟨I2.kIn, ?_⟩
  rw [hks]
  exact run_fnN (us := []) (vs := []) a hr hb hx I2 .nil rz rfl l2 q2
theorem pe_callW0F (c : CalW X.prog X.w X.K X.mg X.base k nm ps 0 ks gV sp) (hr : Room k X.A) (hg : Gl X nm) (hkw : PK X kws tk)
    (hall : (backToKw pos (keywordEach kws X.env)).all (·.1.isSome) = true := by rfl) (hks : (backToKw pos (keywordEach kws X.env)).filterMap (·.1) = ks := by rfl) (hdb : (nm == ("__debug__" : Str)) = false := by decide)
    (hpl : ((backTo pos (starEach [] X.env)).any (·.1) || (backToKw pos (keywordEach kws X.env)).any (·.1.isNone)) = false := by rfl) :
    PE X (.Call (.Name nm p) [] kws pos) (tCallN 0 ks.length sp gV E0 tNil tk) := pe_callW0 c hr passL hg hkw hall hks hdb hpl
/-- the keyword-only ones left out -/
theorem pe_callD (c : CalD X.prog X.w X.K X.mg X.base k nm ps dvs sp) (hr : Room k X.A) (hx : Passes (L2.CX X.prog X.w) X E) (hg : Gl X nm) (ha : PA X (e :: es) t) (hdb : (nm == ("__debug__" : Str)) = false := by decide)
    (he : starEach (e :: es) X.env = (false, eval e X.env) :: starEach es X.env := by rfl) (hpl : (backTo pos (starEach es X.env)).any (·.1) = false := by rfl) :
    PE X (.Call (.Name nm p) (e :: es) [] pos) (tCall sp dvs E t) := by
  obtain ⟨f, fd, ds, a, b, d, q, v⟩ := c
  exact pe_call a hr hg b d q v hx ha hdb he hpl
theorem pe_callDF (c : CalD X.prog X.w X.K X.mg X.base k nm ps dvs sp) (hr : Room k X.A) (hg : Gl X nm) (ha : PA X (e :: es) t) (hdb : (nm == ("__debug__" : Str)) = false := by decide)
    (he : starEach (e :: es) X.env = (false, eval e X.env) :: starEach es X.env := by rfl) (hpl : (backTo pos (starEach es X.env)).any (·.1) = false := by rfl) :
    PE X (.Call (.Name nm p) (e :: es) [] pos) (tCall sp dvs E0 t) := pe_callD c hr passL hg ha hdb he hpl
theorem pe_callD0F (c : CalD X.prog X.w X.K X.mg X.base k nm ps dvs sp) (hr : Room k X.A) (hg : Gl X nm) (hdb : (nm == ("__debug__" : Str)) = false := by decide) :
    PE X (.Call (.Name nm p) [] [] pos) (tCall sp dvs E0 tNil) := by
  obtain ⟨f, fd, ds, a, b, d, q, v⟩ := c
  exact pe_call0 a hr hg b d q v passL hdb
theorem pe_makeW (c : CalNW X.prog X.w X.K X.mg X.base k nm C ps ks gV sp) (hr : Room (k + 1) X.A) (hx : Passes (L2.CX X.prog X.w) X E) (hg : Gl X nm) (hkw : PK X kws tk)
    (hall : (backToKw pos (keywordEach kws X.env)).all (·.1.isSome) = true := by rfl) (hks : (backToKw pos (keywordEach kws X.env)).filterMap (·.1) = ks := by rfl) (hdb : (nm == ("__debug__" : Str)) = false := by decide)
    (hpl : ((backTo pos (starEach [] X.env)).any (·.1) || (backToKw pos (keywordEach kws X.env)).any (·.1.isNone)) = false := by rfl) :
    PE X (.Call (.Name nm p) [] kws pos) (tMakeK C 0 ks.length sp gV E tNil tk) := by
  obtain ⟨f, fd, g, a, b, d, hb⟩ := c
  exact pe_makeK0 a b hr hg d hb hx hkw hall hks hdb hpl
theorem pe_makeWF (c : CalNW X.prog X.w X.K X.mg X.base k nm C ps ks gV sp) (hr : Room (k + 1) X.A) (hg : Gl X nm) (hkw : PK X kws tk)
    (hall : (backToKw pos (keywordEach kws X.env)).all (·.1.isSome) = true := by rfl) (hks : (backToKw pos (keywordEach kws X.env)).filterMap (·.1) = ks := by rfl) (hdb : (nm == ("__debug__" : Str)) = false := by decide)
    (hpl : ((backTo pos (starEach [] X.env)).any (·.1) || (backToKw pos (keywordEach kws X.env)).any (·.1.isNone)) = false := by rfl) :
    PE X (.Call (.Name nm p) [] kws pos) (tMakeK C 0 ks.length sp gV E0 tNil tk) := pe_makeW c hr passL hg hkw hall hks hdb hpl
theorem pe_makeDF (c : CalND X.prog X.w X.K X.mg X.base k nm C ps dvs sp) (hr : Room (k + 1) X.A) (hg : Gl X nm) (hdb : (nm == ("__debug__" : Str)) = false := by decide) :
    PE X (.Call (.Name nm p) [] [] pos) (tMake C sp dvs E0 tNil) := by
  obtain ⟨f, fd, ds, a, b, d, hb, v⟩ := c
  exact pe_make0 a b hr hg d hb v passL hdb
end
/-! ### defs as values, called out of a list -/
def tGl (mg : Str → Option Value) (nm : Str) : TE := fun _ H Q => ∀ f, mg nm = some (.ref f) → Q (.ref f) H
def tCall2 (mg : Str → Option Value) (nm1 nm2 : Str) (sp1 sp2 : Sp) (tf : TE) (t : TA) : TE := fun σ H Q => tf σ H fun y H1 => ∃ f, y = .ref f ∧ ((mg nm1 = some (.ref f) ∧ t σ H1 fun vs H2 => sp1 (vs ++ []) H2 Q E0) ∨ (mg nm2 = some (.ref f) ∧ t σ H1 fun vs H2 => sp2 (vs ++ []) H2 Q E0))
section
variable {X : Cx} {k : Nat} {nm nm1 nm2 : Str} {ps ps1 ps2 : List Str} {sp sp1 sp2 : Sp} {fe e : Expr} {es : List Expr} {tf : TE} {t : TA} {p pos : Pos}
theorem pe_gl (c : Cal X.prog X.w X.K X.mg X.base k nm ps sp) (mg : Str → Option Value) (hm : X.mg = mg) (hg : Gl X nm) (hdb : (nm == ("__debug__" : Str)) = false := by decide) : PE X (.Name nm p) (tGl mg nm) := by
  subst hm
  obtain ⟨f, fd, a, b, d, g⟩ := c
  refine ⟨fun pins s σ H Q I h => ?_⟩
  exact (pe_glob (v := .ref f) (pos := p) hg b rfl hdb).run pins s σ H Q I (h f b)
theorem pe_call2 (c1 : Cal X.prog X.w X.K X.mg X.base k nm1 ps1 sp1) (c2 : Cal X.prog X.w X.K X.mg X.base k nm2 ps2 sp2) (mg : Str → Option Value) (hm : X.mg = mg) (hf : PE X fe tf) (hr : Room k X.A) (ha : PA X (e :: es) t)
    (ht : eval (.Call fe (e :: es) [] pos) X.env = (do callWith pos (← eval fe X.env) [] (backTo pos (starEach (e :: es) X.env)) (backToKw pos (keywordEach [] X.env))) := by rfl)
    (he : starEach (e :: es) X.env = (false, eval e X.env) :: starEach es X.env := by rfl) (hpl : (backTo pos (starEach es X.env)).any (·.1) = false := by rfl) : PE X (.Call fe (e :: es) [] pos) (tCall2 mg nm1 nm2 sp1 sp2 tf t) := by
  subst hm
  obtain ⟨f1, fd1, a1, b1, d1, g1⟩ := c1
  obtain ⟨f2, fd2, a2, b2, d2, g2⟩ := c2
  refine ⟨fun pins s σ H Q I h => ?_⟩
  refine Call_ (thn (hf.run pins s σ H _ I h) fun u s1 ⟨y, H1, I1, ry, f, ey, q⟩ => ?_) ht
  subst ey
  obtain rfl : u = Value.ref f := ry
  rcases q with ⟨m, q⟩ | ⟨m, q⟩
  · obtain rfl : f1 = f := by
      rw [b1] at m
      cases m
      rfl
    refine PySem.W.callWith_K (h₀ := X.base) I.ok.mod.kin d1 (thn (ha.run pos pins s1 σ _ _ I1 q) fun us s2 ⟨vs, H2, I2, r, q⟩ => ⟨I2.kIn, ?_⟩) he hpl
    exact run_fn a1 hr g1 .nil pass0 I2 r q
  · obtain rfl : f2 = f := by
      rw [b2] at m
      cases m
      rfl
    refine PySem.W.callWith_K (h₀ := X.base) I.ok.mod.kin d2 (thn (ha.run pos pins s1 σ _ _ I1 q) fun us s2 ⟨vs, H2, I2, r, q⟩ => ⟨I2.kIn, ?_⟩) he hpl
    exact run_fn a2 hr g2 .nil pass0 I2 r q
end
section
variable {K : PySem.W.Frag} {x qual y : Str} {params : Arguments} {body : List Stmt} {scope : Scope} {kws : List (Str × V)} {f : Addr} {fd : FuncData} {ps : List Str} {v : V}
theorem kbn_app (F : FunD K x qual params body scope [] kws f fd) (n : Nat) (ks : List Str) (hk : kws ≠ [])
    (h : ∀ (D : Addr) (doc pm : Value) (an : Option Addr) (cdv ct : Value) (us ws : List Value), us.length = n → ws.length = ks.length → bindArgs (PySem.W.fnOf x qual params body scope .none (.ref D) doc pm an cdv ct) ⟨us, ks.zip ws⟩ = pure (ps.zip (us ++ ws))) :
    ∃ g, KBn K fd ps n ks g (fun vs zs => vs ++ zs) := by
  obtain ⟨mv, h⟩ := F.kbinds0 (ps := ps) n ks [] (fun {α} us mv ws => us ++ ws) hk (fun q hq => by cases hq) (fun r1 _ r3 => r1.append r3) (fun D doc pm an cdv ct us mv ws l1 l2 l3 => by
    have : mv = [] := List.eq_nil_of_length_eq_zero l2
    subst this
    exact h D doc pm an cdv ct us ws l1 l3)
  exact ⟨_, h⟩
/-- two keywords, in the other order -/
theorem kbn_two (F : FunD K x qual params body scope [] kws f fd) (ks : List Str) (hk : kws ≠ []) (h2 : ks.length = 2)
    (h : ∀ (D : Addr) (doc pm : Value) (an : Option Addr) (cdv ct : Value) (u v : Value), bindArgs (PySem.W.fnOf x qual params body scope .none (.ref D) doc pm an cdv ct) ⟨[], ks.zip [u, v]⟩ = pure (ps.zip [v, u])) :
    ∃ g, KBn K fd ps 0 ks g (fun vs zs => vs ++ two zs) := by
  obtain ⟨mv, h⟩ := F.kbinds0 (ps := ps) 0 ks [] (fun {α} us mv ws => us ++ two ws) hk (fun q hq => by cases hq) (fun r1 _ r3 => r1.append (by
    cases r3 with
    | nil => exact .nil
    | cons a r => cases r with
      | nil => exact .nil
      | cons b r => cases r with
        | nil => exact .cons b (.cons a .nil)
        | cons _ _ => exact .nil)) (fun D doc pm an cdv ct us mv ws l1 l2 l3 => by
    have : mv = [] := List.eq_nil_of_length_eq_zero l2
    subst this
    have : us = [] := List.eq_nil_of_length_eq_zero l1
    subst this
    rw [h2] at l3
    match ws, l3 with
    | [u, v], _ => exact h D doc pm an cdv ct u v)
  exact ⟨_, h⟩
theorem dfl_one (F : FunD K x qual params body scope [] [(y, v)] f fd) (n : Nat) (hn : n + 1 = ps.length)
    (h : ∀ (D : Addr) (doc pm : Value) (an : Option Addr) (cdv ct : Value) (us : List Value) (u : Value), us.length = n → KwChain D [(y, u)] (bindArgs (PySem.W.fnOf x qual params body scope .none (.ref D) doc pm an cdv ct) ⟨us, []⟩) (ps.zip (us ++ [u]))) :
    ∃ ds, Vals [v] ds ∧ Binds K fd ps ds := F.binds0 n (by intro z; cases z) hn (fun D doc pm an cdv ct us ks l1 l2 => by
  match ks, l2 with
  | [u], _ => exact h D doc pm an cdv ct us u l1)
theorem funD_one {oc : Value} {od an : Option Addr} {dc pm cd ct : Value} {sl : Array (Option Value)} {D : Addr} {u : Value} (l : K.lookup f = some ⟨oc, od, .func (PySem.W.fnOf x qual params body scope .none (.ref D) dc pm an cd ct), sl⟩) (c : PySem.W.codeIn K cd qual = true) (k : PySem.W.keepIn K (.ref f) = true)
    (n : PySem.W.nsIn K D y = some (some u)) (r : RelV v u) : FunD K x qual params body scope [] [(y, v)] f (PySem.W.fnOf x qual params body scope .none (.ref D) dc pm an cd ct) :=
  ⟨⟨_, _, _, _, _, _, _, _, _, _, rfl, l, c, .inl ⟨rfl, rfl⟩, .inr ⟨D, rfl, fun q hq => by rw [List.mem_singleton.mp hq]; exact ⟨u, n, r⟩⟩⟩, k⟩
end
end WB
namespace WB
open PySem PySem.Spec PyProof.Rows L2
/-! ### many things of one kind, as one -/
section
variable {α : Type} {T0 : List (Addr × Str)} {Ts : List Th} {Y : List α} {f : α → Th} {i j : Nat} {y y' z : α} {H H' : Hp} {N : Th}
theorem mem_tG {a : Addr} : a ∈ (tG (Y.map f)).ft ↔ ∃ y ∈ Y, a ∈ (f y).ft := by
  show a ∈ (Y.map f).flatMap (·.ft) ↔ _
  rw [List.mem_flatMap]
  constructor
  · rintro ⟨T, hT, ha⟩
    obtain ⟨y, hy, rfl⟩ := List.mem_map.mp hT
    exact ⟨y, hy, ha⟩
  · rintro ⟨y, hy, ha⟩
    exact ⟨f y, List.mem_map.mpr ⟨y, hy, rfl⟩, ha⟩
theorem map_at (hj : Y[j]? = some y) : (Y.map f)[j]? = some (f y) := by
  rw [List.getElem?_map, hj]
  rfl
theorem Hs.gget (h : Hs T0 Ts H) (i : Nat) (hi : Ts[i]? = some (tG (Y.map f))) (hj : Y[j]? = some y) : (f y).P H := by
  have g : Hs [] (Y.map f) H := h.get i hi
  exact g.get j (map_at hj)
theorem gset_ft (hj : Y[j]? = some y) (hf : ∀ a ∈ (f y').ft, a ∈ (f y).ft ∨ H a = none) : ∀ a ∈ (tG ((Y.set j y').map f)).ft, a ∈ (tG (Y.map f)).ft ∨ H a = none := fun a ha => by
  obtain ⟨z, hz, ha⟩ := mem_tG.mp ha
  rcases List.mem_or_eq_of_mem_set hz with q | q
  · exact .inl (mem_tG.mpr ⟨z, q, ha⟩)
  · rw [q] at ha
    exact (hf a ha).imp (fun x => mem_tG.mpr ⟨y, List.mem_of_getElem? hj, x⟩) id
theorem gset_P {F : List Addr} (g : Hs [] (Y.map f) H) (hj : Y[j]? = some y) (m : MvF F H H') (hF : ∀ a ∈ F, a ∈ (f y).ft ∨ H a = none) (hp : (f y').P H') (hf : ∀ a ∈ (f y').ft, a ∈ (f y).ft ∨ H a = none) : (tG ((Y.set j y').map f)).P H' := by
  have := g.op (T' := f y') j (map_at hj) m hF hp hf
  rw [← List.map_set] at this
  exact this
theorem Hs.gset {F : List Addr} (h : Hs T0 Ts H) (i : Nat) (hi : Ts[i]? = some (tG (Y.map f))) (hj : Y[j]? = some y) (m : MvF F H H') (hF : ∀ a ∈ F, a ∈ (f y).ft ∨ H a = none) (hp : (f y').P H') (hf : ∀ a ∈ (f y').ft, a ∈ (f y).ft ∨ H a = none) : Hs T0 (Ts.set i (tG ((Y.set j y').map f))) H' :=
  h.op i hi m (fun a ha => (hF a ha).imp (fun x => mem_tG.mpr ⟨y, List.mem_of_getElem? hj, x⟩) id) (gset_P (h.get i hi) hj m hF hp hf) (gset_ft hj hf)
/-- the j-th changes, and a new one comes -/
theorem Hs.gsetN {F : List Addr} (h : Hs T0 Ts H) (i : Nat) (hi : Ts[i]? = some (tG (Y.map f))) (hj : Y[j]? = some y) (m : MvF F H H') (hF : ∀ a ∈ F, a ∈ (f y).ft ∨ H a = none) (hp : (f y').P H') (hf : ∀ a ∈ (f y').ft, a ∈ (f y).ft ∨ H a = none)
    (hn : N.P H') (hnf : ∀ a ∈ N.ft, H a = none ∧ a ∉ (f y').ft) : Hs T0 (N :: Ts.set i (tG ((Y.set j y').map f))) H' := by
  refine h.opNew i hi m (fun a ha => (hF a ha).imp (fun x => mem_tG.mpr ⟨y, List.mem_of_getElem? hj, x⟩) id) (gset_P (h.get i hi) hj m hF hp hf) (gset_ft hj hf) hn (fun a ha => ⟨(hnf a ha).1, fun q => ?_⟩)
  obtain ⟨z, hz, hz2⟩ := mem_tG.mp q
  rcases List.mem_or_eq_of_mem_set hz with q | q
  · have g : Hs [] (Y.map f) H := h.get i hi
    obtain ⟨k, hk⟩ := List.getElem?_of_mem q
    exact (f z).live (g.get k (map_at hk)) hz2 (hnf a ha).1
  · rw [q] at hz2
    exact (hnf a ha).2 hz2
theorem Hs.gadd (h : Hs T0 (f z :: tG (Y.map f) :: Ts) H) : Hs T0 (tG ((Y ++ [z]).map f) :: Ts) H := by
  have h1 := h.swap.ungroup
  rw [show Y.map f ++ f z :: Ts = (Y ++ [z]).map f ++ Ts by simp] at h1
  exact h1.group
theorem Hs.gnil (h : Hs T0 Ts H) : Hs T0 (tG (([] : List α).map f) :: Ts) H := Hs.group (Ts := []) h
end
theorem map_set_same {α β : Type} {f : α → β} {Y : List α} {w : Nat} {x x' : α} (h : Y[w]? = some x) (e : f x' = f x) : (Y.set w x').map f = Y.map f := by
  rw [List.map_set, e]
  apply List.ext_getElem?
  intro i
  rw [List.getElem?_set]
  by_cases z : w = i
  · subst z
    rw [if_pos rfl, List.getElem?_map, h, List.length_map, if_pos (List.getElem?_eq_some_iff.mp h).1]
    rfl
  · rw [if_neg z]
theorem const_by {v : V} {i : Nat} {u : TS} {D : Ends} {σ : L2.St} {H : Hp} (h : u D (σ.set i (some v)) H) : tSeq (tAsg (tC v) (gName i)) u D σ H := h
theorem getElem?_ex {α : Type} {l : List α} {i : Nat} (h : i < l.length) : ∃ x, l[i]? = some x := ⟨_, List.getElem?_eq_getElem h⟩
end WB
namespace WB
open PySem PySem.Spec PyProof.Rows L2
/-! ### tuples of ints, ordered -/
def tupD (t : List Int) : PyData := .tuple (t.map PyData.int)
/-- the first difference decides -/
def lexB : List Int → List Int → Bool
  | [], [] => false
  | [], _ :: _ => true
  | _ :: _, [] => false
  | x :: xs, y :: ys => if x = y then lexB xs ys else decide (x < y)
theorem lexB_eq : ∀ xs ys : List Int, PySem.W.listLt xs ys = lexB xs ys
  | [], [] => rfl
  | [], _ :: _ => rfl
  | _ :: _, [] => rfl
  | x :: xs, y :: ys => by
    unfold PySem.W.listLt lexB
    rw [lexB_eq xs ys]
    rfl
theorem dataLt_tup (s t : List Int) : PySem.W.dataLt (tupD s) (tupD t) = lexB s t := by
  have h := PySem.W.DatumOrd.lt_eq (α := PySem.W.Tup Int) ⟨s⟩ ⟨t⟩
  rw [← lexB_eq]
  exact h
def minT (x : List Int) (r : List (List Int)) : List Int := r.foldl (fun a y => if lexB y a = true then y else a) x
theorem minD_tup : ∀ (r : List (List Int)) (x : List Int), PySem.W.minD (tupD x) (r.map tupD) = tupD (minT x r)
  | [], x => rfl
  | y :: r, x => by
    show (r.map tupD).foldl _ (if PySem.W.dataLt (tupD y) (tupD x) = true then tupD y else tupD x) = tupD (r.foldl _ (if lexB y x = true then y else x))
    rw [dataLt_tup]
    cases lexB y x with
    | true => exact minD_tup r y
    | false => exact minD_tup r x
theorem alike_tup (s t : List Int) : PySem.W.alike (tupD s) (tupD t) = true := PySem.W.DatumOrd.alike (α := PySem.W.Tup Int) ⟨s⟩ ⟨t⟩
theorem depth_tups : ∀ ts : List (List Int), PyData.depthAll (ts.map tupD) ≤ 1
  | [] => Nat.zero_le _
  | t :: ts => by
    show max (PyData.depthAll (t.map PyData.int) + 1) (PyData.depthAll (ts.map tupD)) ≤ 1
    rw [depth_ints]
    exact Nat.max_le.mpr ⟨Nat.le_refl _, depth_tups ts⟩
section
variable {K : PySem.W.Frag}
theorem dpa_at {H : Hp} : ∀ {xs : List V} {ds : List PyData} {i : Nat} {x : V}, DpAll K H xs ds → xs[i]? = some x → ∃ d, ds[i]? = some d ∧ Dp K H x d
  | _, _, _, _, .nil, e => by simp at e
  | _, _, 0, _, .cons h _, e => by simp at e; subst e; exact ⟨_, rfl, h⟩
  | _, _, i + 1, x, .cons _ t, e => by
    obtain ⟨d, h1, h2⟩ := dpa_at (i := i) (x := x) t (by simpa using e)
    exact ⟨d, by simpa using h1, h2⟩
theorem dpa_int_inv {H : Hp} : ∀ {t : List Int} {xs : List V}, DpAll K H xs (t.map PyData.int) → xs = t.map V.int
  | [], _, .nil => rfl
  | _ :: _, _, .cons h r => by
    cases h
    rw [dpa_int_inv r]
    rfl
theorem dp_tup_inv {H : Hp} {v : V} {t : List Int} (h : Dp K H v (tupD t)) : ∃ p, v = .ref p ∧ SqT K H p (t.map V.int) := by
  cases h with
  | tup hs ha => exact ⟨_, rfl, by rw [← dpa_int_inv ha]; exact hs⟩
theorem dp_tup {H : Hp} {p : Addr} {t : List Int} (h : SqT K H p (t.map V.int)) : Dp K H (.ref p) (tupD t) := .tup h (dpa_ints t)
end
theorem tupD_inj {s t : List Int} (h : tupD s = tupD t) : s = t := by
  have h1 : s.map PyData.int = t.map PyData.int := PyData.tuple.inj h
  exact List.map_inj_right (fun _ _ e => PyData.int.inj e) |>.mp h1
/-- min of a list of tuples of ints: one of them, whose numbers are the least -/
def rMinT (K : PySem.W.Frag) : List V → Hp → VK → Prop := fun vs H Q => ∃ (a : Addr) (xs : List V) (x : List Int) (r : List (List Int)), vs = [.ref a] ∧ SqL K H a xs ∧ DpAll K H xs ((x :: r).map tupD) ∧ ∀ (i : Nat) (p : Addr), xs[i]? = some (.ref p) → (x :: r)[i]? = some (minT x r) → SqT K H p ((minT x r).map V.int) → Q (.ref p) H
theorem vals_at {xs : List V} {us : List Value} (h : Vals xs us) : ∀ {i : Nat} {u : Value}, us[i]? = some u → ∃ x, xs[i]? = some x ∧ RelV x u := by
  induction h with
  | nil => intro i u e; simp at e
  | cons a r ih =>
    intro i u e
    cases i with
    | zero => simp at e; subst e; exact ⟨_, rfl, a⟩
    | succ i =>
      obtain ⟨x, h1, h2⟩ := ih (i := i) (u := u) (by simpa using e)
      exact ⟨x, by simpa using h1, h2⟩
section
variable {X : Cx}
theorem cr_minT (hu : X.A.units + 64 < cLine) (hc : X.calm = true) : CallR X (.builtin "min") (rMinT X.K) := by
  intro pins s σ H vs us Q I r h
  obtain ⟨a, xs, x, rs, rfl, hs, hd, q⟩ := h
  obtain ⟨its, rv, hl, _⟩ := I.list hs
  rw [Vals.ref1 r]
  obtain ⟨as, hr⟩ := Dp.readsAll I _ _ _ hd rv
  have hdep := depth_tups (x :: rs)
  refine PySem.W.min_list_data (vs := its.toArray) (x := tupD x) (xs := rs.map tupD) (I.ok.hd hc) hl.isList hr ⟨?_, ?_⟩ ?_ fun i v h' tk bs hi hv hk => ?_
  · intro y hy z hz
    obtain ⟨t1, _, rfl⟩ := List.mem_map.mp (show y ∈ (x :: rs).map tupD from hy)
    obtain ⟨t2, _, rfl⟩ := List.mem_map.mp (show z ∈ (x :: rs).map tupD from hz)
    exact alike_tup t1 t2
  · intro y hy
    obtain ⟨t1, _, rfl⟩ := List.mem_map.mp (show y ∈ (x :: rs).map tupD from hy)
    exact fun z => by cases z
  · have e : PyData.depthAll (tupD x :: rs.map tupD) ≤ 1 := hdep
    omega
  · rw [minD_tup] at hv
    obtain ⟨xv, h1, h2⟩ := vals_at rv (i := i) (u := v) (by simpa using hi)
    obtain ⟨d, e1, e2⟩ := dpa_at hd h1
    obtain ⟨cs, hv2⟩ := Dp.reads I d xv v e2 h2
    have e3 := (reads_det (h := s.heap) (h' := h') (fun b o e _ => hk b o e) hv2 hv).1
    rw [← e3] at e1 e2
    obtain ⟨p, rfl, hp⟩ := dp_tup_inv e2
    have e4 : (x :: rs)[i]? = some (minT x rs) := by
      rw [List.getElem?_map] at e1
      cases e5 : (x :: rs)[i]? with
      | none => rw [e5] at e1; cases e1
      | some t =>
        rw [e5] at e1
        rw [tupD_inj (Option.some.inj e1)]
    exact ⟨.ref p, H, I.kept hk, h2, q i p h1 e4 hp⟩
theorem cr_minTK (K : PySem.W.Frag) (h : X.K = K) (hu : X.A.units + 64 < cLine) (hc : X.calm = true) : CallR X (.builtin "min") (rMinT K) := by subst h; exact cr_minT hu hc
end
end WB
namespace WB
open PySem PySem.Spec PyProof.Rows L2
theorem mt_lcountK {X : Cx} (K : PySem.W.Frag) (h : X.K = K) : MtR X "list.count" (rCntI K) := by subst h; exact mt_lcount
theorem eq_t {a b : Int} (e : decide (V.int a = V.int b) = true) : a = b := V.int.inj (of_decide_eq_true e)
theorem eq_f {a b : Int} (e : ¬ decide (V.int a = V.int b) = true) : a ≠ b := fun z => e (decide_eq_true (congrArg V.int z))
theorem ne_t {a b : Int} (e : (!decide (V.int a = V.int b)) = true) : a ≠ b := fun z => by
  rw [decide_eq_true (congrArg V.int z)] at e
  cases e
theorem ne_f {a b : Int} (e : ¬ (!decide (V.int a = V.int b)) = true) : a = b := by
  by_cases z : a = b
  · exact z
  · exact absurd (by rw [decide_eq_false (fun y => z (V.int.inj y))]; rfl) e
end WB
namespace WB
open PySem PySem.Spec PyProof.Rows L2
/-! ### zip of two sequences, each a list (true) or a tuple (false) -/
def SqK (K : PySem.W.Frag) : Bool → Hp → Addr → List V → Prop
  | true, H, a, xs => SqL K H a xs
  | false, H, a, xs => SqT K H a xs
def KIt : Bool → Heap → Addr → Addr → Nat → Prop
  | true, h, it, a, i => h.IsListIter it a i
  | false, h, it, a, i => h.IsTupleIter it a i
def KSeq : Bool → Heap → Addr → Array Value → Prop
  | true, h, a, vs => h.IsList a vs
  | false, h, a, vs => h.IsTuple a vs
def kItO : Bool → Addr → Obj
  | true, a => { cls := .type "list_iterator", data := .fields #[.ref a, .int 0 0] }
  | false, a => { cls := .type "tuple_iterator", data := .fields #[.ref a, .int 0 0] }
theorem draws_k {P : Program} {w : World} {A : Around} (k : Bool) (hh : A.handled = none) (it l : Addr) (hne : l ≠ it) (vs : Array Value) :
    Draws P w A it [it, l] vs.size (fun i v => vs[i]? = some v) (fun i h => KIt k h it l i ∧ KSeq k h l vs) := by
  cases k with
  | true => exact Draws.list hh it l hne vs
  | false => exact Draws.tuple hh it l hne vs
theorem begins_k (k : Bool) (l : Addr) (vs : Array Value) : Begins (.ref l) (kItO k l) (fun h => KSeq k h l vs) := by
  cases k with
  | true => exact begins_list l vs
  | false => exact begins_tuple l vs
theorem kit_at {k : Bool} {h h' : Heap} {it a : Addr} {i : Nat} (x : KIt k h it a i) (e : ∀ o, h.get? it = some o → h'.get? it = some o) : KIt k h' it a i := by
  cases k with
  | true => exact Heap.IsListIter.at x e
  | false => exact Heap.IsTupleIter.at x e
theorem kit_obj {k : Bool} {h : Heap} {it a : Addr} {i : Nat} (x : KIt k h it a i) : ∃ o, h.get? it = some o ∧ ∀ v, o.data ≠ .cell v := by
  cases k with
  | true =>
    obtain ⟨o, e, _, d⟩ := x
    exact ⟨o, e, fun v q => by rw [d] at q; cases q⟩
  | false =>
    obtain ⟨o, e, _, d⟩ := x
    exact ⟨o, e, fun v q => by rw [d] at q; cases q⟩
theorem kit_new {k : Bool} {h : Heap} {it a : Addr} (e : h.get? it = some (kItO k a)) : KIt k h it a 0 := by
  cases k with
  | true => exact ⟨_, e, rfl, rfl⟩
  | false => exact ⟨_, e, rfl, rfl⟩
section
variable {X : Cx} {pins : List (Addr × Obj)} {σ : L2.St} {H : Hp} {s : Shared} {k : Bool} {a : Addr} {xs ys : List V}
theorem SqK.read (I : Inv X pins σ H s) (h : SqK X.K k H a xs) : ∃ its : List Value, Vals xs its ∧ KSeq k s.heap a its.toArray ∧ a < s.heap.objs.size := by
  cases k with
  | true =>
    obtain ⟨its, r, p, _⟩ := I.list h
    exact ⟨its, r, p.isList, p.lt⟩
  | false =>
    obtain ⟨its, r, p, _⟩ := I.tuple h
    obtain ⟨o, e, _⟩ := id p
    exact ⟨its, r, p, Heap.lt_size e⟩
theorem SqK.inj (I : Inv X pins σ H s) (h : SqK X.K k H a xs) (h' : SqK X.K k H a ys) : xs = ys := by
  cases k with
  | true => exact I.list_inj h h'
  | false => exact I.tuple_inj h h'
end
theorem SqK.same {K : PySem.W.Frag} {k : Bool} {H H' : Hp} {a : Addr} {xs : List V} (e : Same H H') (h : SqK K k H a xs) : SqK K k H' a xs := by
  cases k with
  | true => exact e.seq h
  | false => exact same_t e h
def Itz2 (K : PySem.W.Frag) (k1 k2 : Bool) (a b : Addr) : It where
  go i H := ∃ (xs ys : List V) (x y : V), SqK K k1 H a xs ∧ SqK K k2 H b ys ∧ xs[i]? = some x ∧ ys[i]? = some y
  yld i H v H' := ∃ (T : Addr) (x y : V), v = .ref T ∧ H T = none ∧ H' = upd H T (.tup [x, y]) ∧ (∀ l, SqK K k1 H a l → l[i]? = some x) ∧ ∀ l, SqK K k2 H b l → l[i]? = some y
  stop i H := ∃ (xs ys : List V), SqK K k1 H a xs ∧ SqK K k2 H b ys ∧ i ≤ xs.length ∧ i ≤ ys.length ∧ (i = xs.length ∨ i = ys.length)
theorem of5 {c z TI TO i1 i2 : Addr} (h : c ∈ [z, TI, TO, i1, i2]) : c = z ∨ c = TI ∨ c = TO ∨ c = i1 ∨ c = i2 := by simpa using h
theorem turn_z2 {P : Program} {w : World} {K : PySem.W.Frag} {elts : List Expr} {kk : Nat} {tpos : Pos} {k1 k2 : Bool} {a b z TI TO i1 i2 : Addr} (S : ZipSep2 z TI TO i1 i2 [i1, a] [i2, b]) (n1 : a ≠ i1) (n2 : b ≠ i2) :
    Turn P w K (.Tuple elts kk tpos) (Itz2 K k1 k2 a b) [z, TI, TO, i1, i2] z (fun i h => IsZip h z TI TO .none ∧ IsTupOf2 h TI (.ref i1) (.ref i2) ∧ (∃ x y, IsTupOf2 h TO x y) ∧ KIt k1 h i1 a i ∧ KIt k2 h i2 b i) where
  mem := .head _
  obj := by
    rintro i h ⟨hz, hI, ⟨x, y, hO⟩, h1, h2⟩ c hc
    rcases of5 hc with rfl | rfl | rfl | rfl | rfl
    · exact ⟨_, hz, fun v q => nomatch q⟩
    · exact ⟨_, hI, fun v q => nomatch q⟩
    · exact ⟨_, hO, fun v q => nomatch q⟩
    · exact kit_obj h1
    · exact kit_obj h2
  keep := by
    rintro i h h' ⟨hz, hI, ⟨x, y, hO⟩, h1, h2⟩ kp
    exact ⟨kp z (by simp) _ hz, kp TI (by simp) _ hI, ⟨x, y, kp TO (by simp) _ hO⟩, kit_at h1 (fun o => kp i1 (by simp) o), kit_at h2 (fun o => kp i2 (by simp) o)⟩
  item := by
    intro X hP hw hK hc i pins s σ H E I hf st hg
    subst hP hw hK
    obtain ⟨hz, hI, ⟨x0, y0, hO⟩, h1, h2⟩ := st
    obtain ⟨xs, ys, x, y, qx, qy, ex, ey⟩ := hg
    obtain ⟨us, ru, pu, _⟩ := qx.read I
    obtain ⟨vs, rv, pv, _⟩ := qy.read I
    obtain ⟨u, hu, rxu⟩ := ru.get ex
    obtain ⟨v, hv, ryv⟩ := rv.get ey
    have lz : z < s.heap.objs.size := Heap.lt_size hz
    have hh : X.A.in1.handled = none := I.ok.hd hc
    refine wpAny_pyNext_zipD2_item S (draws_k k1 hh i1 a n1 us.toArray) (draws_k k2 hh i2 b n2 vs.toArray) hz hI hO ⟨h1, pu⟩ ⟨h2, pv⟩ (by simpa using (List.getElem?_eq_some_iff.mp hu).1) (by simpa using (List.getElem?_eq_some_iff.mp hv).1) fun u' v' h' tk hu' hv' z' O' t1 t2 hT hsz keep => ?_
    obtain rfl : u = u' := by
      have : us[i]? = some u' := by simpa using hu'
      rw [hu] at this
      exact Option.some.inj this
    obtain rfl : v = v' := by
      have : vs[i]? = some v' := by simpa using hv'
      rw [hv] at this
      exact Option.some.inj this
    refine ⟨_, rfl, wpAny_letOwnedTupleGo_zip (s := { s with heap := h', toks := tk }) z' fun h'' z'' sb => ?_⟩
    have hT2 : h''.get? s.heap.objs.size = some { cls := .type "tuple", data := .seq #[u, v] } := (sb.2 _ (Nat.ne_of_gt lz)).trans hT
    have J : Inv X pins σ (upd H s.heap.objs.size (.tup [x, y])) { s with heap := h'', toks := tk } :=
      I.turnedNew (ch := [z, TI, TO, i1, i2]) (fun c o nc q => by
        have m : ∀ d, d ∈ [z, TI, TO, i1, i2] → c ≠ d := fun d hd e => nc (e ▸ hd)
        rw [sb.2 c (m z (by simp))]
        exact keep c o (m z (by simp)) (m TO (by simp)) (m i1 (by simp)) (m i2 (by simp)) q) hf (Nat.le_refl _) ⟨by show 2 ≤ sizeLine; decide, [u, v], .cons rxu (.cons ryv .nil), _, hT2, rfl, _, rfl⟩
    refine ⟨.ref s.heap.objs.size, _, J, rfl, ⟨_, x, y, rfl, I.hok.fresh (Nat.le_refl _), rfl, fun l hl => by rw [hl.inj I qx]; exact ex, fun l hl => by rw [hl.inj I qy]; exact ey⟩, ⟨z'', ?_, ⟨u, v, ?_⟩, ?_, ?_⟩, fun c hcm => ?_⟩
    · exact (sb.2 _ S.TIz).trans (keep _ _ S.TIz S.TITO S.TIi1 S.TIi2 hI)
    · exact (sb.2 _ S.TOz).trans O'
    · exact kit_at t1.1 (fun o q => (sb.2 _ S.zi1.symm).trans q)
    · exact kit_at t2.1 (fun o q => (sb.2 _ S.zi2.symm).trans q)
    · have lt : c < s.heap.objs.size := by
        rcases of5 hcm with rfl | rfl | rfl | rfl | rfl
        · exact lz
        · exact Heap.lt_size hI
        · exact Heap.lt_size hO
        · obtain ⟨o, e, _⟩ := kit_obj h1
          exact Heap.lt_size e
        · obtain ⟨o, e, _⟩ := kit_obj h2
          exact Heap.lt_size e
      rw [upd_ne (Nat.ne_of_lt lt)]
      exact (hf c hcm).1
  done := by
    intro X hP hw hK hc i pins s σ H E I hf st hg
    subst hP hw hK
    obtain ⟨hz, hI, ⟨x0, y0, hO⟩, h1, h2⟩ := st
    obtain ⟨xs, ys, qx, qy, l1, l2, he⟩ := hg
    obtain ⟨us, ru, pu, _⟩ := qx.read I
    obtain ⟨vs, rv, pv, _⟩ := qy.read I
    have e1 := ru.length
    have e2 := rv.length
    have hh : X.A.in1.handled = none := I.ok.hd hc
    refine wpAny_pyNext_zipD2_end S (draws_k k1 hh i1 a n1 us.toArray) (draws_k k2 hh i2 b n2 vs.toArray) hz hI hO ⟨h1, pu⟩ ⟨h2, pv⟩ (by simp; omega) (by simp; omega) (by simp; omega) fun h' tk keep => ⟨rfl, ?_⟩
    exact I.turnedL (ch := [z, TI, TO, i1, i2]) (fun c o nc q => by
      have m : ∀ d, d ∈ [z, TI, TO, i1, i2] → c ≠ d := fun d hd e => nc (e ▸ hd)
      exact keep c o (m z (by simp)) (m TO (by simp)) (m i1 (by simp)) (m i2 (by simp)) q) hf
  self := fun A i s Q E st h => wpAny_pyIter_zip st.1 h
def iZip2 (K : PySem.W.Frag) (ta : TA) : TI := fun σ H R => ta σ H fun vs H1 => ∃ (a b : Addr) (k1 k2 : Bool) (xs ys : List V), vs = [.ref a, .ref b] ∧ SqK K k1 H1 a xs ∧ SqK K k2 H1 b ys ∧ R (Itz2 K k1 k2 a b) H1
theorem pi_zip2 {X : Cx} (K : PySem.W.Frag) (hKK : X.K = K) {e e2 : Expr} {ta : TA} {p pos tpos : Pos} {elts : List Expr} {kk : Nat} (hg : Gl X "zip") (hm : X.mg "zip" = none) (ha : PA X [e, e2] ta)
    (hs : starEach [e, e2] X.env = (false, eval e X.env) :: starEach [e2] X.env := by rfl) (hpl : (backTo pos (starEach [e2] X.env)).any (·.1) = false := by rfl) :
    PI X (.Tuple elts kk tpos) (.Call (.Name "zip" p) [e, e2] [] pos) (iZip2 K ta) := by
  subst hKK
  refine ⟨fun pins s σ H R I h => ?_⟩
  refine Call_ (ld_blt I hg hm PyProof.Rows.boot_zip (PyProof.Rows.callWith_type1 (thn (ha.run pos pins s σ H _ I h) fun us s1 y => ?_) hs hpl))
  obtain ⟨vs, H1, I1, r1, a, b, k1, k2, xs, ys, rfl, qx, qy, q⟩ := y
  cases r1 with
  | cons r rr =>
    cases rr with
    | cons r' rr =>
      cases rr
      cases r
      cases r'
      obtain ⟨us, ru, pu, la⟩ := qx.read I1
      obtain ⟨ws, rw_, pw, lb⟩ := qy.read I1
      refine zip_begins2 (begins_k k1 a us.toArray) (begins_k k2 b ws.toArray) pu pw fun h' hz hI hO g1 g2 hsz keep => wpAny_pyIter_zip hz ?_
      refine ⟨s1.heap.objs.size + 4, [s1.heap.objs.size + 4, s1.heap.objs.size + 2, s1.heap.objs.size + 3, s1.heap.objs.size, s1.heap.objs.size + 1], _, _, H1, rfl, I1.kept (t' := s1.toks) keep, turn_z2 (zip_sep2 (N := s1.heap.objs.size) (fp1 := [a]) (fp2 := [b]) (fun c hc => by rw [List.mem_singleton.mp hc]; exact la) (fun c hc => by rw [List.mem_singleton.mp hc]; exact lb)) (Nat.ne_of_lt la) (Nat.ne_of_lt (Nat.lt_succ_of_lt lb)), ⟨hz, hI, ⟨_, _, hO⟩, kit_new g1, kit_new g2⟩, fun c hc => ?_, q⟩
      have le : s1.heap.objs.size ≤ c := by
        rcases of5 hc with z | z | z | z | z
        · rw [z]; exact Nat.le_add_right _ _
        · rw [z]; exact Nat.le_add_right _ _
        · rw [z]; exact Nat.le_add_right _ _
        · rw [z]; exact Nat.le_refl _
        · rw [z]; exact Nat.le_add_right _ _
      exact I1.fpOk le (I1.hok.fresh le)
theorem walk_z2 {K : PySem.W.Frag} {k1 k2 : Bool} {a b : Addr} {xs ys : List V} {n : Nat} (hn : n = min xs.length ys.length) : Walk (Itz2 K k1 k2 a b) n (fun H => SqK K k1 H a xs ∧ SqK K k2 H b ys) (YPair (fun i => xs[i]?) (fun i => ys[i]?)) := by
  subst hn
  refine ⟨fun i _ hi q => ?_, fun _ q => ⟨xs, ys, q.1, q.2, by omega, by omega, by omega⟩, fun i H v H' _ q y => ?_⟩
  · obtain ⟨x, hx⟩ := getElem?_ex (show i < xs.length by omega)
    obtain ⟨y, hy⟩ := getElem?_ex (show i < ys.length by omega)
    exact ⟨xs, ys, x, y, q.1, q.2, hx, hy⟩
  · obtain ⟨T, x, z, h1, h2, h3, h4, h5⟩ := y
    exact ⟨T, x, z, h1, h2, h3, h4 xs q.1, h5 ys q.2⟩
/-! ### tuples that are cut, whole or in part -/
theorem sl_tupAK {X : Cx} (K : PySem.W.Frag) (h : X.K = K) : SlR X (rSlA K) := by subst h; exact sl_tupA
end WB
namespace WB
open PySem PySem.Spec PyProof.Rows L2
/-! ### things that stand apart, and tuples that are known (they may be shared: nothing changes them) -/
def noT : HO → Prop
  | .tup _ => False
  | .frz _ _ => False
  | _ => True
class NT (T : Th) : Prop where
  nt : ∀ H, T.P H → ∀ a ∈ T.ft, ∀ o, H a = some o → noT o
def TF (K : PySem.W.Frag) (L : List (Addr × List V)) (H : Hp) : Prop := ∀ p ∈ L, SqT K H p.1 p.2
section
variable {K : PySem.W.Frag} {L : List (Addr × List V)} {H H' : Hp} {F : List Addr} {a : Addr} {xs : List V}
theorem sqT_keep (kp : ∀ o, H a = some o → ¬ noT o → H' a = some o) (h : SqT K H a xs) : SqT K H' a xs := by
  rcases h with (h | ⟨o, h⟩) | h
  · exact .inl (.inl (kp _ h (fun z => z)))
  · exact .inl (.inr ⟨o, kp _ h (fun z => z)⟩)
  · exact .inr h
theorem sqT_mvf (m : MvF F H H') (hF : ∀ a ∈ F, ∀ o, H a = some o → noT o) (h : SqT K H a xs) : SqT K H' a xs := sqT_keep (fun o e n => m.kp a o (fun z => n (hF a z o e)) e) h
theorem TF.mvf (m : MvF F H H') (hF : ∀ a ∈ F, ∀ o, H a = some o → noT o) (t : TF K L H) : TF K L H' := fun p hp => sqT_mvf m hF (t p hp)
theorem TF.same (s : Same H H') (t : TF K L H) : TF K L H' := fun p hp => same_t s (t p hp)
end
instance (b : Addr × Addr) : NT (tB b) := ⟨fun H h a ha o e => by
  obtain ⟨ns, i, r, x, c, h1, h2, _⟩ := h
  rcases List.mem_cons.mp ha with rfl | ha
  · rw [h1] at e
    cases e
    trivial
  · rw [List.mem_singleton.mp ha, h2] at e
    cases e
    trivial⟩
instance (a : Addr) (xs : List V) : NT (tO a (.lst xs)) := ⟨fun H h b hb o e => by
  rw [in1 hb, h.1] at e
  cases e
  trivial⟩
instance {α : Type} (Y : List α) (f : α → Th) [i : ∀ y, NT (f y)] : NT (tG (Y.map f)) := ⟨fun H h a ha o e => by
  obtain ⟨y, hy, ha⟩ := mem_tG.mp ha
  obtain ⟨j, hj⟩ := List.getElem?_of_mem hy
  have g : Hs [] (Y.map f) H := h
  exact (i y).nt H (g.get j (map_at hj)) a ha o e⟩
structure Hw (K : PySem.W.Frag) (L : List (Addr × List V)) (T0 : List (Addr × Str)) (Ts : List Th) (H : Hp) : Prop where
  hs : Hs T0 Ts H
  tf : TF K L H
section
variable {K : PySem.W.Frag} {L L' : List (Addr × List V)} {T0 : List (Addr × Str)} {Ts : List Th} {T T' N : Th} {H H' : Hp} {a p : Addr} {xs : List V} {b : Addr × Addr} {o o' : HO}
theorem Hw.of (h : Hs T0 Ts H) : Hw K [] T0 Ts H := ⟨h, fun p hp => absurd hp List.not_mem_nil⟩
theorem Hw.get (h : Hw K L T0 Ts H) (i : Nat) (hi : Ts[i]? = some T) : T.P H := h.hs.get i hi
theorem Hw.at (h : Hw K L T0 Ts H) (i : Nat) (hi : Ts[i]? = some (tO p o)) : H p = some o := h.hs.at i hi
theorem Hw.tup (h : Hw K L T0 Ts H) (i : Nat) (hi : L[i]? = some (a, xs)) : SqT K H a xs := h.tf _ (List.mem_of_getElem? hi)
theorem Hw.same (h : Hw K L T0 Ts H) (s : Same H H') : Hw K L T0 Ts H' := ⟨h.hs.same s, h.tf.same s⟩
theorem Hw.know (h : Hw K L T0 Ts H) (t : SqT K H a xs) : Hw K ((a, xs) :: L) T0 Ts H := ⟨h.hs, fun p hp => (List.mem_cons.mp hp).elim (fun z => by rw [z]; exact t) (h.tf p)⟩
theorem Hw.selT (h : Hw K L T0 Ts H) (hs : ∀ q ∈ L', q ∈ L) : Hw K L' T0 Ts H := ⟨h.hs, fun p hp => h.tf p (hs p hp)⟩
theorem Hw.sel (h : Hw K L T0 Ts H) (is : List Nat) (hn : is.Nodup) : Hw K L T0 (pickTs Ts is) H := ⟨h.hs.sel is hn, h.tf⟩
theorem Hw.bag (h : Hw K L T0 (tB b :: Ts) H) : Bag b H := h.hs.bag
theorem Hw.noF [NT T] {F : List Addr} (h : Hw K L T0 Ts H) (i : Nat) (hi : Ts[i]? = some T) (hF : ∀ a ∈ F, a ∈ T.ft ∨ H a = none) : ∀ a ∈ F, ∀ o, H a = some o → noT o := fun a ha o e => by
  rcases hF a ha with z | z
  · exact NT.nt H (h.hs.get i hi) a z o e
  · rw [z] at e
    cases e
theorem Hw.op [NT T] {F : List Addr} (h : Hw K L T0 Ts H) (i : Nat) (hi : Ts[i]? = some T) (m : MvF F H H') (hF : ∀ a ∈ F, a ∈ T.ft ∨ H a = none) (hp : T'.P H') (hf : ∀ a ∈ T'.ft, a ∈ T.ft ∨ H a = none) : Hw K L T0 (Ts.set i T') H' :=
  ⟨h.hs.op i hi m hF hp hf, h.tf.mvf m (h.noF i hi hF)⟩
theorem Hw.opNew [NT T] {F : List Addr} (h : Hw K L T0 Ts H) (i : Nat) (hi : Ts[i]? = some T) (m : MvF F H H') (hF : ∀ a ∈ F, a ∈ T.ft ∨ H a = none) (hp : T'.P H') (hf : ∀ a ∈ T'.ft, a ∈ T.ft ∨ H a = none) (hn : N.P H') (hnf : ∀ a ∈ N.ft, H a = none ∧ a ∉ T'.ft) : Hw K L T0 (N :: Ts.set i T') H' :=
  ⟨h.hs.opNew i hi m hF hp hf hn hnf, h.tf.mvf m (h.noF i hi hF)⟩
theorem Hw.mv (h : Hw K L T0 (tB b :: Ts) H) (m : Mv b.1 H H') (g : Bag b H') : Hw K L T0 (tB b :: Ts) H' :=
  h.op (T := tB b) (T' := tB b) 0 rfl (mvf_bag m g) (fun a ha => .inl ha) g (fun a ha => .inl ha)
theorem Hw.newM (h : Hw K L T0 (tB b :: Ts) H) (m : Mv b.1 H H') (g : Bag b H') (n : H p = none) (e : H' p = some o) (pl : plain o := by exact trivial) : Hw K L T0 (tB b :: tO p o :: Ts) H' :=
  ⟨h.hs.newM m g n e pl, h.tf.mvf (mvf_bag m g) (h.noF (T := tB b) 0 rfl (fun a ha => .inl ha))⟩
theorem Hw.newH (h : Hw K L T0 Ts H) (s : Same H H') (n : H p = none) (e : H' p = some o) (pl : plain o := by exact trivial) : Hw K L T0 (tO p o :: Ts) H' := ⟨h.hs.newH s n e pl, h.tf.same s⟩
theorem Hw.newHU (h : Hw K L T0 Ts H) (n : H p = none) (pl : plain o := by exact trivial) : Hw K L T0 (tO p o :: Ts) (upd H p o) := ⟨h.hs.newHU n pl, h.tf.same (same_upd n)⟩
theorem Hw.newU (h : Hw K L T0 (tB b :: Ts) H) (n : H p = none) (pl : plain o := by exact trivial) : Hw K L T0 (tB b :: tO p o :: Ts) (upd H p o) := ⟨h.hs.newU n pl, h.tf.same (same_upd n)⟩
theorem Hw.new (h : Hw K L T0 Ts H) (s : Same H H') (hp : T.P H') (hf : ∀ a ∈ T.ft, H a = none) : Hw K L T0 (T :: Ts) H' := ⟨h.hs.new s hp hf, h.tf.same s⟩
/-- a new tuple, known from now on -/
theorem Hw.newT (h : Hw K L T0 Ts H) (n : H p = none) : Hw K ((p, xs) :: L) T0 Ts (upd H p (.tup xs)) := (h.same (same_upd n)).know (SqT.of upd_same)
theorem Hw.put (h : Hw K L T0 Ts H) (i : Nat) {xs ys : List V} (hi : Ts[i]? = some (tL p xs)) : Hw K L T0 (Ts.set i (tL p ys)) (upd H p (.lst ys)) :=
  h.op (T := tL p xs) (T' := tL p ys) i hi (F := [p]) ((MvF.refl [p] H).upd (.head _)) (fun a ha => .inl ha) ⟨upd_same, trivial⟩ (fun a ha => .inl ha)
theorem Hw.merge {A B C : Th} (h : Hw K L T0 (A :: B :: Ts) H) (hp : C.P H) (hf : ∀ a ∈ C.ft, a ∈ A.ft ∨ a ∈ B.ft) : Hw K L T0 (C :: Ts) H := ⟨h.hs.merge hp hf, h.tf⟩
end
section
variable {α : Type} {K : PySem.W.Frag} {L : List (Addr × List V)} {T0 : List (Addr × Str)} {Ts : List Th} {Y : List α} {f : α → Th} {i j : Nat} {y y' z : α} {H H' : Hp} {N : Th}
theorem Hw.gget (h : Hw K L T0 Ts H) (i : Nat) (hi : Ts[i]? = some (tG (Y.map f))) (hj : Y[j]? = some y) : (f y).P H := h.hs.gget i hi hj
theorem Hw.gset [∀ y, NT (f y)] {F : List Addr} (h : Hw K L T0 Ts H) (i : Nat) (hi : Ts[i]? = some (tG (Y.map f))) (hj : Y[j]? = some y) (m : MvF F H H') (hF : ∀ a ∈ F, a ∈ (f y).ft ∨ H a = none) (hp : (f y').P H') (hf : ∀ a ∈ (f y').ft, a ∈ (f y).ft ∨ H a = none) : Hw K L T0 (Ts.set i (tG ((Y.set j y').map f))) H' :=
  ⟨h.hs.gset i hi hj m hF hp hf, h.tf.mvf m (h.noF (T := tG (Y.map f)) i hi (fun a ha => (hF a ha).imp (fun x => mem_tG.mpr ⟨y, List.mem_of_getElem? hj, x⟩) id))⟩
theorem Hw.gsetN [∀ y, NT (f y)] {F : List Addr} (h : Hw K L T0 Ts H) (i : Nat) (hi : Ts[i]? = some (tG (Y.map f))) (hj : Y[j]? = some y) (m : MvF F H H') (hF : ∀ a ∈ F, a ∈ (f y).ft ∨ H a = none) (hp : (f y').P H') (hf : ∀ a ∈ (f y').ft, a ∈ (f y).ft ∨ H a = none) (hn : N.P H') (hnf : ∀ a ∈ N.ft, H a = none ∧ a ∉ (f y').ft) : Hw K L T0 (N :: Ts.set i (tG ((Y.set j y').map f))) H' :=
  ⟨h.hs.gsetN i hi hj m hF hp hf hn hnf, h.tf.mvf m (h.noF (T := tG (Y.map f)) i hi (fun a ha => (hF a ha).imp (fun x => mem_tG.mpr ⟨y, List.mem_of_getElem? hj, x⟩) id))⟩
theorem Hw.gadd (h : Hw K L T0 (f z :: tG (Y.map f) :: Ts) H) : Hw K L T0 (tG ((Y ++ [z]).map f) :: Ts) H := ⟨h.hs.gadd, h.tf⟩
theorem Hw.gnil (h : Hw K L T0 Ts H) : Hw K L T0 (tG (([] : List α).map f) :: Ts) H := ⟨h.hs.gnil, h.tf⟩
end
theorem sqT_updI {K : PySem.W.Frag} {H : Hp} {r C dx t : Addr} {fs : List (Str × V)} {o : HO} {xs : List V} (e : H r = some (.ins C dx fs)) (h : SqT K H t xs) : SqT K (upd H r o) t xs := sqT_keep (fun u eu n => by
  rw [upd_ne (fun z => ?_)]
  · exact eu
  · rw [z, e] at eu
    cases eu
    exact n trivial) h
theorem sqK_updI {K : PySem.W.Frag} {H : Hp} {r C dx t : Addr} {fs : List (Str × V)} {o : HO} {k : Bool} {xs : List V} (e : H r = some (.ins C dx fs)) (h : SqK K k H t xs) : SqK K k (upd H r o) t xs := by
  cases k with
  | false => exact sqT_updI e h
  | true =>
    refine lk_l (lk_mv (b := r) (Mv.refl r H).upd ?_) h
    intro u eu
    rw [e] at eu
    cases eu
    rintro (⟨_, z⟩ | ⟨_, z⟩ | ⟨_, _, z⟩) <;> cases z
theorem ix_by {K : PySem.W.Frag} {k : Bool} {H : Hp} {a : Addr} {xs : List V} {i : Int} {v : V} {Q : VK} (h : SqK K k H a xs) (e : atI xs i = some v) (q : Q v H) : rIx K (.ref a) (.int i) H Q := by
  cases k with
  | true => exact .inl ⟨a, _, _, _, rfl, rfl, h, e, q⟩
  | false => exact .inr (.inl ⟨a, _, _, _, rfl, rfl, h, e, q⟩)
theorem SqK.or {K : PySem.W.Frag} {k : Bool} {H : Hp} {a : Addr} {xs : List V} (h : SqK K k H a xs) : SqL K H a xs ∨ SqT K H a xs := by
  cases k with
  | true => exact .inl h
  | false => exact .inr h
theorem made_none {H : Hp} {x dx l : Addr} {o o' : HO} (h : upd (upd H dx o') x o l = none) : H l = none := by
  by_cases z : l = x
  · rw [z, upd_same] at h
    cases h
  by_cases y : l = dx
  · rw [upd_ne z, y, upd_same] at h
    cases h
  rw [upd_ne z, upd_ne y] at h
  exact h
theorem made_same {H H2 : Hp} {x dx : Addr} {o o' : HO} (nx : H x = none) (ndx : H dx = none) (m : MvF [x] (upd (upd H dx o') x o) H2) : Same H H2 := fun a u e => by
  refine m.kp a u (fun z => ne_of_none e nx (in1 z)) ?_
  rw [upd_ne (ne_of_none e nx), upd_ne (ne_of_none e ndx)]
  exact e
/-! ### makers with arguments by place -/
def CalNX (P : Program) (w : World) (K : PySem.W.Frag) (mg : Str → Option Value) (base : Heap) (k : Nat) (nm : Str) (C : Addr) (ps : List Str) (sp : Sp) : Prop :=
  ∃ (f : Addr) (fd : FuncData), Mk K C f ∧ FnOk P w K mg base (L2.CX P w) k f fd ps sp ∧ mg nm = some (.ref C) ∧ Binds K fd ps []
theorem CalNX.mono {P : Program} {w : World} {K : PySem.W.Frag} {mg : Str → Option Value} {base : Heap} {j k : Nat} {nm : Str} {C : Addr} {ps : List Str} {sp : Sp} (c : CalNX P w K mg base j nm C ps sp) (h : j ≤ k) : CalNX P w K mg base k nm C ps sp := by
  obtain ⟨f, fd, a, b, d, e⟩ := c
  exact ⟨f, fd, a, b.mono h, d, e⟩
section
variable {X : Cx} {k : Nat} {C : Addr} {ps : List Str} {sp : Sp} {E : XK} {nm : Str} {p pos : Pos} {e : Expr} {es : List Expr} {t : TA}
theorem pe_makeX (c : CalNX X.prog X.w X.K X.mg X.base k nm C ps sp) (hr : Room (k + 1) X.A) (hx : Passes (L2.CX X.prog X.w) X E) (hg : Gl X nm) (ha : PA X (e :: es) t) (hdb : (nm == ("__debug__" : Str)) = false := by decide)
    (he : starEach (e :: es) X.env = (false, eval e X.env) :: starEach es X.env := by rfl) (hpl : (backTo pos (starEach es X.env)).any (·.1) = false := by rfl) : PE X (.Call (.Name nm p) (e :: es) [] pos) (tMake C sp [] E t) := by
  obtain ⟨f, fd, a, b, d, q⟩ := c
  exact pe_make a b hr hg d q .nil hx ha hdb he hpl
theorem pe_makeXF (c : CalNX X.prog X.w X.K X.mg X.base k nm C ps sp) (hr : Room (k + 1) X.A) (hg : Gl X nm) (ha : PA X (e :: es) t) (hdb : (nm == ("__debug__" : Str)) = false := by decide)
    (he : starEach (e :: es) X.env = (false, eval e X.env) :: starEach es X.env := by rfl) (hpl : (backTo pos (starEach es X.env)).any (·.1) = false := by rfl) : PE X (.Call (.Name nm p) (e :: es) [] pos) (tMake C sp [] E0 t) := pe_makeX c hr passL hg ha hdb he hpl
end
section
variable {X : Cx} (K : PySem.W.Frag)
def rSlAny (K : PySem.W.Frag) : V → Option Int → Option Int → Hp → VK → Prop := fun x lo hi H Q => rSlL K x lo hi H Q ∨ rSlA K x lo hi H Q
theorem sl_anyK (h : X.K = K) : SlR X (rSlAny K) := by
  subst h
  intro pins s σ H x v vl vu lo hi sl Q I rx hs pl pu h
  rcases h with h | h
  · exact sl_list pins s σ H x v vl vu lo hi sl Q I rx hs pl pu h
  · exact sl_tupA pins s σ H x v vl vu lo hi sl Q I rx hs pl pu h
end
end WB
namespace WB
open PySem PySem.Spec PyProof.Rows L2
/-! ### methods with keyword-only parameters: n by place behind the thing itself, keywords ks -/
def tMethN (C : Addr) (m : Str) (n j : Nat) (sp : Sp) (gV : List V → List V → List V) (E : XK) (ta : TE) (t tk : TA) : TE := fun σ H Q => ta σ H fun x H1 => ∃ (a dx : Addr) (fs : List (Str × V)), x = .ref a ∧ H1 a = some (.ins C dx fs) ∧ fs.lookup m = none ∧
  t σ H1 fun vs H2 => tk σ H2 fun zs H3 => vs.length = n ∧ zs.length = j ∧ sp (gV (.ref a :: vs) zs) H3 Q E
def CalMW (P : Program) (w : World) (K : PySem.W.Frag) (mg : Str → Option Value) (base : Heap) (k : Nat) (C : Addr) (m : Str) (ps : List Str) (n : Nat) (ks : List Str) (gV : List V → List V → List V) (sp : Sp) : Prop :=
  ∃ (f : Addr) (fd : FuncData) (g : List Value → List Value → List Value), Cls K C ∧ Meth K C m f ∧ FnOk P w K mg base (L2.CX P w) k f fd ps sp ∧ KBn K fd ps (n + 1) ks g gV
theorem CalMW.mono {P : Program} {w : World} {K : PySem.W.Frag} {mg : Str → Option Value} {base : Heap} {j k n : Nat} {C : Addr} {m : Str} {ps ks : List Str} {gV : List V → List V → List V} {sp : Sp} (c : CalMW P w K mg base j C m ps n ks gV sp) (h : j ≤ k) : CalMW P w K mg base k C m ps n ks gV sp := by
  obtain ⟨f, fd, g, a, b, d, e⟩ := c
  exact ⟨f, fd, g, a, b, d.mono h, e⟩
/-- the keyword-only ones left out -/
def CalMD (P : Program) (w : World) (K : PySem.W.Frag) (mg : Str → Option Value) (base : Heap) (k : Nat) (C : Addr) (m : Str) (ps : List Str) (dvs : List V) (sp : Sp) : Prop :=
  ∃ (f : Addr) (fd : FuncData) (ds : List Value), Cls K C ∧ Meth K C m f ∧ FnOk P w K mg base (L2.CX P w) k f fd ps sp ∧ Binds K fd ps ds ∧ Vals dvs ds
theorem CalMD.mono {P : Program} {w : World} {K : PySem.W.Frag} {mg : Str → Option Value} {base : Heap} {j k : Nat} {C : Addr} {m : Str} {ps : List Str} {dvs : List V} {sp : Sp} (c : CalMD P w K mg base j C m ps dvs sp) (h : j ≤ k) : CalMD P w K mg base k C m ps dvs sp := by
  obtain ⟨f, fd, g, a, b, d, e⟩ := c
  exact ⟨f, fd, g, a, b, d.mono h, e⟩
section
variable {X : Cx} {k n : Nat} {C : Addr} {m : Str} {ps ks : List Str} {sp : Sp} {E : XK} {pos apos : Pos} {e o : Expr} {es : List Expr} {kws : List Keyword} {ta : TE} {t tk : TA} {gV : List V → List V → List V} {dvs : List V} {pl : Sem Bool}
theorem pe_methW (ho : PE X o ta) (c : CalMW X.prog X.w X.K X.mg X.base k C m ps n ks gV sp) (hr : Room k X.A) (hx : Passes (L2.CX X.prog X.w) X E) (ha : PA X (e :: es) t) (hkw : PK X kws tk)
    (hall : (backToKw pos (keywordEach kws X.env)).all (·.1.isSome) = true := by rfl) (hks : (backToKw pos (keywordEach kws X.env)).filterMap (·.1) = ks := by rfl) (he : starEach (e :: es) X.env = (false, eval e X.env) :: starEach es X.env := by rfl)
    (hpl : ((backTo pos (starEach (e :: es) X.env)).any (·.1) || (backToKw pos (keywordEach kws X.env)).any (·.1.isNone)) = false := by rfl)
    (ht : eval (.Call (.Attribute o m apos) (e :: es) kws pos) X.env = (do
      let ov ← eval o X.env
      standAt apos.atName
      let (f, first) ← holding [ov] (getMethod ov m pl)
      callWith pos f first (backTo pos (starEach (e :: es) X.env)) (backToKw pos (keywordEach kws X.env))) := by rfl) :
    PE X (.Call (.Attribute o m apos) (e :: es) kws pos) (tMethN C m n ks.length sp gV E ta t tk) := by
  obtain ⟨f, fd, g, hc, hm, F, hb⟩ := c
  refine ⟨fun pins s σ H Q I h => ?_⟩
  refine PySem.W.methodCall_KW (pl := pl) (thn (ho.run pins s σ H _ I h) fun u s1 y => ?_) ht
  obtain ⟨x, H1, I1, rx, a, dx, fs, rfl, ea, l, q⟩ := y
  obtain rfl : u = Value.ref a := rx
  refine getmeth_ok I1 ea hc hm l ?_
  refine PySem.W.callWith_KW (first := [.ref a]) (h₀ := X.base) I.ok.mod.kin hm.kp hall (thn (ha.run pos pins s1 σ H1 _ I1 q) fun us s2 y => ?_) hpl he
  obtain ⟨vs, H2, I2, r, q2⟩ := y
  refine thn (hkw.run pos pins s2 σ H2 _ I2 q2) fun ws s3 y => ?_
  obtain ⟨zs, H3, I3, rz, l1, l2, q3⟩ := y
  refine ⟨I3.kIn, ?_⟩
  rw [hks]
  exact run_fnN (us := .ref a :: us) (vs := .ref a :: vs) F hr hb hx I3 (.cons rfl r) rz (congrArg (· + 1) l1) l2 q3
theorem pe_methWF (ho : PE X o ta) (c : CalMW X.prog X.w X.K X.mg X.base k C m ps n ks gV sp) (hr : Room k X.A) (ha : PA X (e :: es) t) (hkw : PK X kws tk)
    (hall : (backToKw pos (keywordEach kws X.env)).all (·.1.isSome) = true := by rfl) (hks : (backToKw pos (keywordEach kws X.env)).filterMap (·.1) = ks := by rfl) (he : starEach (e :: es) X.env = (false, eval e X.env) :: starEach es X.env := by rfl)
    (hpl : ((backTo pos (starEach (e :: es) X.env)).any (·.1) || (backToKw pos (keywordEach kws X.env)).any (·.1.isNone)) = false := by rfl)
    (ht : eval (.Call (.Attribute o m apos) (e :: es) kws pos) X.env = (do
      let ov ← eval o X.env
      standAt apos.atName
      let (f, first) ← holding [ov] (getMethod ov m pl)
      callWith pos f first (backTo pos (starEach (e :: es) X.env)) (backToKw pos (keywordEach kws X.env))) := by rfl) :
    PE X (.Call (.Attribute o m apos) (e :: es) kws pos) (tMethN C m n ks.length sp gV E0 ta t tk) := pe_methW ho c hr passL ha hkw hall hks he hpl ht
theorem pe_methD (ho : PE X o ta) (c : CalMD X.prog X.w X.K X.mg X.base k C m ps dvs sp) (hr : Room k X.A) (hx : Passes (L2.CX X.prog X.w) X E) (ha : PA X (e :: es) t) (hs : starEach (e :: es) X.env = (false, eval e X.env) :: starEach es X.env := by rfl) (hpl : (backTo pos (starEach es X.env)).any (·.1) = false := by rfl)
    (hc : eval (.Call (.Attribute o m apos) (e :: es) [] pos) X.env = (do
      let ov ← eval o X.env
      standAt apos.atName
      let (f, first) ← holding [ov] (getMethod ov m pl)
      callWith pos f first (backTo pos (starEach (e :: es) X.env)) (backToKw pos (keywordEach [] X.env))) := by rfl) : PE X (.Call (.Attribute o m apos) (e :: es) [] pos) (tMeth C m sp dvs E ta t) := by
  obtain ⟨f, fd, ds, a, b, d, g, v⟩ := c
  exact pe_meth ho a b d hr g v hx ha hs hpl hc
theorem pe_methDF (ho : PE X o ta) (c : CalMD X.prog X.w X.K X.mg X.base k C m ps dvs sp) (hr : Room k X.A) (ha : PA X (e :: es) t) (hs : starEach (e :: es) X.env = (false, eval e X.env) :: starEach es X.env := by rfl) (hpl : (backTo pos (starEach es X.env)).any (·.1) = false := by rfl)
    (hc : eval (.Call (.Attribute o m apos) (e :: es) [] pos) X.env = (do
      let ov ← eval o X.env
      standAt apos.atName
      let (f, first) ← holding [ov] (getMethod ov m pl)
      callWith pos f first (backTo pos (starEach (e :: es) X.env)) (backToKw pos (keywordEach [] X.env))) := by rfl) : PE X (.Call (.Attribute o m apos) (e :: es) [] pos) (tMeth C m sp dvs E0 ta t) := pe_methD ho c hr passL ha hs hpl hc
end
theorem pi_revAK {X : Cx} (K : PySem.W.Frag) (hKK : X.K = K) {tg e : Expr} {te : TE} {p pos : Pos} (hg : Gl X "reversed") (hm : X.mg "reversed" = none) (he : PE X e te) (hs : starEach [e] X.env = (false, eval e X.env) :: starEach [] X.env := by rfl) : PI X tg (.Call (.Name "reversed" p) [e] [] pos) (RT.iRevA K te) := by
  subst hKK
  exact RT.pi_revA hg hm he hs
theorem walk_revT {K : PySem.W.Frag} {a : Addr} {xs : List V} : Walk (RT.ItvT K a xs.length) xs.length (fun H => SqT K H a xs) (fun i H x H' => H' = H ∧ xs[xs.length - 1 - i]? = some x) := by
  refine ⟨fun i H hi q => ⟨hi, xs, ?_⟩, fun _ _ => Nat.le_refl _, fun i H x H' _ q y => ⟨y.1, y.2 xs q⟩⟩
  obtain ⟨x, hx⟩ := getElem?_ex (show xs.length - 1 - i < xs.length by omega)
  exact ⟨x, q, hx⟩
/-! ### how keywords are bound: ks as written, ms those that lack (their defaults), pm puts both in the parameters' order -/
section
variable {K : PySem.W.Frag} {x qual : Str} {params : Arguments} {body : List Stmt} {scope : Scope} {kws : List (Str × V)} {f : Addr} {fd : FuncData} {ps : List Str}
/-- the i-th of both rows, one behind the other -/
def pickL {α : Type} (l : List α) : List Nat → List α
  | [] => []
  | i :: r => match l[i]? with
    | some x => x :: pickL l r
    | none => pickL l r
theorem vals_pick {vs : List V} {us : List Value} (h : Vals vs us) : ∀ is : List Nat, Vals (pickL vs is) (pickL us is)
  | [] => .nil
  | i :: r => by
    unfold pickL
    cases e : us[i]? with
    | none =>
      have e2 : vs[i]? = none := by
        rw [List.getElem?_eq_none_iff] at e ⊢
        have := h.length
        omega
      rw [e2]
      exact vals_pick h r
    | some u =>
      obtain ⟨y, hy, ry⟩ := vals_at h e
      rw [hy]
      exact .cons ry (vals_pick h r)
theorem kbn_pick (F : FunD K x qual params body scope [] kws f fd) (n : Nat) (ks : List Str) (ms : List (Str × V)) (is : List Nat) (hk : kws ≠ []) (hms : ∀ q ∈ ms, q ∈ kws)
    (h : ∀ (D : Addr) (doc pm : Value) (an : Option Addr) (cdv ct : Value) (us mv ws : List Value), us.length = n → mv.length = ms.length → ws.length = ks.length →
      KwChain D ((ms.map (·.1)).zip mv) (bindArgs (PySem.W.fnOf x qual params body scope .none (.ref D) doc pm an cdv ct) ⟨us, ks.zip ws⟩) (ps.zip (us ++ pickL (ws ++ mv) is))) :
    ∃ g, KBn K fd ps n ks g (fun vs zs => vs ++ pickL (zs ++ ms.map (·.2)) is) := by
  obtain ⟨mv, hb⟩ := F.kbinds0 (ps := ps) n ks ms (fun {α} us mv ws => us ++ pickL (ws ++ mv) is) hk hms (fun r1 r2 r3 => r1.append (vals_pick (r3.append r2) is)) h
  exact ⟨_, hb⟩
end
end WB
namespace WB
open PySem PySem.Spec PyProof.Rows L2
/-! ### a comparison of two instances of one class by the class's own def, whatever it tells -/
def rOwnI (C : Addr) (sp : Sp) (E : XK) : R2 := fun x y H Q => ∃ a dx fs b dy gs, x = .ref a ∧ y = .ref b ∧ H a = some (.ins C dx fs) ∧ H b = some (.ins C dy gs) ∧ sp [x, y] H Q E
section
variable {X : Cx} {CX : CXT} {C g : Addr} {n : Nat} {sp : Sp} {E : XK}
theorem op_ownI {op : CmpOp} (hop : ∀ a b, compareOp op a b = richCompare op a b) (hs : PySem.W.findIn X.K (.ref C) (cmpInfo op).2.1 = some (some (.ref g))) (hf : PySem.W.isFn X.K (.ref g) = true) (F : FnR X.prog X.w X.K X.mg X.base CX n g sp)
    (hr : Room n X.A) (hx : Passes CX X E) : OpR X (compareOp op) (rOwnI C sp E) := by
  intro pins s σ H x y v u Q I rx ry h
  obtain ⟨a, dx, fs, b, dy, gs, rfl, rfl, ha, hb, q⟩ := h
  cases (show v = Value.ref a from rx)
  cases (show u = Value.ref b from ry)
  obtain ⟨mA, J, _⟩ := ins_get I.hok ha
  obtain ⟨mB, J', _⟩ := ins_get I.hok hb
  obtain ⟨od, J, _⟩ := J.look
  obtain ⟨od', J', _⟩ := J'.look
  obtain ⟨m, hF⟩ := I.fr
  rw [hop]
  refine PySem.W.cmp_K (op := op) (tb := .ref C) hr.units0 hF I.ok.mod.kin J J'.type (by simp [PySem.W.notFirst]) hs hf ?_
  refine wpAny_mono (wpAny_call (run_fnR (us := [.ref a, .ref b]) (vs := [.ref a, .ref b]) F hr hx I (.cons rfl (.cons rfl .nil)) q)) (fun w s' z => ?_) fun _ _ x => x
  obtain ⟨z', H', I', rz, qz⟩ := z
  exact SlX.cmpback rz ⟨z', H', I', rz, qz⟩
theorem op_eqI (hs : PySem.W.findIn X.K (.ref C) "__eq__" = some (some (.ref g))) (hf : PySem.W.isFn X.K (.ref g) = true) (F : FnR X.prog X.w X.K X.mg X.base CX n g sp) (hr : Room n X.A) (hx : Passes CX X E) : OpR X (compareOp .Eq) (rOwnI C sp E) :=
  op_ownI (fun _ _ => rfl) hs hf F hr hx
end
end WB
namespace WB
open PySem PySem.Spec PyProof.Rows L2 Builtin
section
variable {M : Model} {A : Around} {E : Value → Shared → Prop} {s : Shared} {K : PySem.W.Frag} {x C : Addr} {ox : Obj} {od : Option Obj}
theorem ifBound_objNe {args : List Value} {Q : Option Value → Shared → Prop} (X : K.In s.heap) (I : PySem.W.InstAt s.heap x ox C od) (hs : PySem.W.findIn K (.ref C) "__ne__" = some (some (.builtin "object.__ne__")))
    (h : wpAny M A (call (.builtin "object.__ne__") (.ref x :: args)) (fun v => Q (some v)) E s) : wpAny M A (callSpecialIfBound? (.ref x) "__ne__" args) Q E s := by
  simp only [callSpecialIfBound?, bindSpecialIfBound?]
  refine wpAny_holding (wpAny_bind (wpAny_bind (wpAny_bind (I.type.here ((PySem.W.looks_findIn X hs).here ?_)))))
  refine wpAny_bind (wpAny_askSetting (wpAny_ite ?_))
  have fin : wpAny M A (call (.builtin "object.__ne__") ([.ref x] ++ args) >>= fun v => pure (some v)) Q E s := wpAny_bind (wpAny_mono h (fun v s' h' => wpAny_pure h') fun _ _ h' => h')
  split
  · exact wpAny_bind (wpAny_of_eq (F.cmp_object.ne.bind _) (wpAny_pure (by exact fin)))
  · exact wpAny_tryCatch (wpAny_bind (wpAny_of_eq (F.cmp_object.ne.bind _) (wpAny_pure (by exact fin))))
end
section
variable {prog : Program} {w : World} {A : Around} {E : Value → Shared → Prop} {s : Shared} {K : PySem.W.Frag} {x b C f : Addr} {ox : Obj} {od : Option Obj}
theorem call_objNe {Q : Value → Shared → Prop} (hu : A.in1.units < cLine) (X : K.In s.heap) (I : PySem.W.InstAt s.heap x ox C od) (hm : PySem.W.mroIn K C (.type "object") = some true)
    (hs : PySem.W.findIn K (.ref C) "__eq__" = some (some (.ref f))) (hf : PySem.W.isFn K (.ref f) = true)
    (h : wpAny (model prog w) A.in1 (call (.ref f) [.ref x, .ref b]) (fun v s' => ∃ t, v = .bool t ∧ Q (.bool (!t)) s') E s) :
    wpAny (model prog w) A (call (.builtin "object.__ne__") [.ref x, .ref b]) Q E s := by
  refine wpAny_call (codeAny_call_builtin F.cmp_object.ne.plain F.cmpEntry_ne (PySem.W.check_slot F.cmpKind_ne F.cmpSplit_ne (I.type.andThen (PySem.W.looks_mroIn X hm)) (F.cmpArgs_ne _ _) ?_))
  unfold Builtin.«object.__ne__»
  repeat (first | with_reducible refine wpAny_cRoomFor hu ?_ | with_reducible refine PySem.W.ifBound_K X I hs hf (wpAny_mono h (fun v s' hv => ?_) fun _ _ e => e) | wp_step)
  obtain ⟨t, rfl, q⟩ := hv
  exact wpAny_bind (wpAny_truthy_bool (wpAny_pure q))
/-- != of two instances of a class with an own ==: it asks that, and turns the answer round -/
theorem ne_K {Q : Value → Shared → Prop} (hu : A.units < cLine) (hu1 : A.in1.units < cLine) (X : K.In s.heap) (I : PySem.W.InstAt s.heap x ox C od) (hb : PySem.W.Looks (model prog w) s.heap (typeOf (.ref b)) (.ref C))
    (hne : PySem.W.findIn K (.ref C) "__ne__" = some (some (.builtin "object.__ne__"))) (hm : PySem.W.mroIn K C (.type "object") = some true) (hs : PySem.W.findIn K (.ref C) "__eq__" = some (some (.ref f))) (hf : PySem.W.isFn K (.ref f) = true)
    (h : wpAny (model prog w) A.in1 (call (.ref f) [.ref x, .ref b]) (fun v s' => ∃ t, v = .bool t ∧ Q (.bool (!t)) s') E s) : wpAny (model prog w) A (richCompare .NotEq (.ref x) (.ref b)) Q E s := by
  have one : wpAny (model prog w) A (tryCompare (.ref x) (cmpInfo .NotEq).2.1 (.ref b)) (fun r s' => ∃ v, r = some v ∧ Q v s') E s := by
    unfold tryCompare
    refine wpAny_bind (ifBound_objNe X I hne (call_objNe hu1 X I hm hs hf (wpAny_mono h (fun v s' hv => ?_) fun _ _ e => e)))
    obtain ⟨t, rfl, q⟩ := hv
    exact ⟨t, rfl, wpAny_pure ⟨_, rfl, q⟩⟩
  unfold richCompare
  simp only [oneThing_ref]
  refine wpAny_holding (wpAny_bind (wpAny_cRoomFor hu ?_))
  refine wpAny_bind (I.type.here (wpAny_bind (hb.here ?_)))
  split
  · rename_i q
    simp at q
  · refine wpAny_bind (wpAny_pure ?_)
    simp only [Bool.false_eq_true, if_false]
    refine wpAny_bind (wpAny_mono one (fun r s' z => ?_) fun _ _ e => e)
    obtain ⟨v, rfl, hq⟩ := z
    exact wpAny_pure hq
end
def rNeI (C : Addr) (sp : Sp) (E : XK) : R2 := fun x y H Q => ∃ a dx fs b dy gs, x = .ref a ∧ y = .ref b ∧ H a = some (.ins C dx fs) ∧ H b = some (.ins C dy gs) ∧ sp [x, y] H (fun v H' => ∃ t, v = .bl t ∧ Q (.bl (!t)) H') E
section
variable {X : Cx} {CX : CXT} {C g : Addr} {n : Nat} {sp : Sp} {E : XK}
theorem op_neI (hne : PySem.W.findIn X.K (.ref C) "__ne__" = some (some (.builtin "object.__ne__"))) (hm : PySem.W.mroIn X.K C (.type "object") = some true) (hs : PySem.W.findIn X.K (.ref C) "__eq__" = some (some (.ref g))) (hf : PySem.W.isFn X.K (.ref g) = true)
    (F : FnR X.prog X.w X.K X.mg X.base CX n g sp) (hr : Room (n + 1) X.A) (hx : Passes CX X E) : OpR X (compareOp .NotEq) (rNeI C sp E) := by
  intro pins s σ H x y v u Q I rx ry h
  obtain ⟨a, dx, fs, b, dy, gs, rfl, rfl, ha, hb, q⟩ := h
  cases (show v = Value.ref a from rx)
  cases (show u = Value.ref b from ry)
  obtain ⟨mA, J, _⟩ := ins_get I.hok ha
  obtain ⟨mB, J', _⟩ := ins_get I.hok hb
  obtain ⟨od, J, _⟩ := J.look
  obtain ⟨od', J', _⟩ := J'.look
  have hr1 : Room n X.A.in1 := Room.in1 hr
  refine ne_K hr.units0 hr1.units0 I.kIn J J'.type hne hm hs hf (wpAny_mono (wpAny_call (SlX.run_at (us := [.ref a, .ref b]) (ws := [.ref a, .ref b]) F hr1 I.env0.in1 hx I (.cons rfl (.cons rfl .nil)) q)) (fun w s' z => ?_) fun _ _ x => x)
  obtain ⟨z', H', I', rz, t, rfl, qz⟩ := z
  cases (show w = Value.bool t from rz)
  exact ⟨t, rfl, .bl (!t), H', I', rfl, qz⟩
end
end WB
namespace WB
open PySem PySem.Spec PyProof.Rows L2
section
variable {X : Cx} (K : PySem.W.Frag)
theorem op_inDK (h : X.K = K) {k : Nat} (hr : Room k X.A) : OpR X (compareOp .In) (rInD K) := by subst h; exact op_inD (by have := hr.un; omega)
theorem op_notInDK (h : X.K = K) {k : Nat} (hr : Room k X.A) : OpR X (compareOp .NotIn) (rNotInD K) := by subst h; exact op_notInD (by have := hr.un; omega)
theorem mt_indexDK (h : X.K = K) {k : Nat} (hr : Room k X.A) : MtR X "list.index" (rIndexD K) := by subst h; exact mt_indexD (by have := hr.un; omega)
theorem op_catAK (h : X.K = K) : OpR X (binaryOp .Add) (rCatA K) := by subst h; exact op_catA
end
/-! ### list.extend of a tuple -/
theorem extend_tup (l : Addr) (items : Array Value) (n : Nat) (b : Addr) (items2 : Array Value) (n2 : Nat) (dd : Option Addr) (sl : Array (Option Value)) (hs0 : ¬(!items.isEmpty && Builtin.List.listTooLong (items.size + items2.size)) = true) (hs1 : items.size ≤ sizeLine) (hs2 : items.size + items2.size ≤ sizeLine + 1) :
    Meets (Builtin.«list.extend» ⟨[.ref l, .ref b], []⟩) (fun _ R s => s.heap.get? l = some { cls := .type "list", dict := none, data := .seq items n, slots := #[] } ∧ s.heap.get? b = some { cls := .type "tuple", dict := dd, data := .seq items2 n2, slots := sl } ∧ R (.ok (.ret Value.none)) { s with heap := s.heap.update l (Obj.mapSeq fun x => x ++ items2), toks := s.toks }) :=
  .of_wp fun prog w A R s h => by
    obtain ⟨hp, g, d, tk, os⟩ := s; obtain ⟨hl, hb, h⟩ := h; have f1 := AutoSeq1.idx_int; have f2 := AutoSeq1.sub_tuple_tuple; have f3 := AutoSeq1.sub_list_list; have f4 := AutoSeq1.sub_tuple_list; have f5 := AutoSeq1.sub_list_tuple;
    have hz' : (items ++ items2).size ≤ sizeLine + 1 := by rw [Array.size_append]; exact hs2
    wp_walk using (wpAny_updateSeq hl rfl (hz := hs1) (_hz' := hz')), AutoSeq1.wpAny_loadPart' hl, AutoSeq1.wpAny_loadPart' hb; exact ⟨_, rfl, h⟩
def rExtendT (K : PySem.W.Frag) : V → List V → Hp → VK → Prop := fun x vs H Q => ∃ l b xs zs, x = .ref l ∧ vs = [.ref b] ∧ H l = some (.lst xs) ∧ SqT K H b zs ∧ xs.length + zs.length ≤ sizeLine ∧ Q .non (upd H l (.lst (xs ++ zs)))
theorem mt_extendTK {X : Cx} (K : PySem.W.Frag) (hK : X.K = K) : MtM X "list.extend" (rExtendT K) := by
  subst hK
  intro pins s σ H x vs v us Q I rx rv h
  obtain ⟨l, b, xs, zs, rfl, rfl, hH, hB, hz, q⟩ := h
  cases rx
  obtain ⟨u, rfl, ru⟩ := rv.one
  cases ru
  obtain ⟨z, its, n, r, hl, e⟩ := I.lstM hH
  obtain ⟨its2, r2, ⟨o, ho, hc, n2, hd⟩, hz2⟩ := I.tuple hB
  obtain ⟨oc, odd, oda, osl⟩ := o
  cases hc
  cases hd
  have l1 := r.length
  have l2 := r2.length
  have hsz : its.toArray.size + its2.toArray.size ≤ sizeLine := by rw [List.size_toArray, List.size_toArray]; omega
  have hlong : ¬ (!its.toArray.isEmpty && Builtin.List.listTooLong (its.toArray.size + its2.toArray.size)) = true := by
    rw [notLongL hsz, Bool.and_false]
    exact Bool.false_ne_true
  refine call_meets F.slot_list_extend ⟨_, e, rfl⟩ F.entry_list_extend (F.args_list_extend_2 _ _)
    (extend_tup l its.toArray n b its2.toArray n2 odd osl hlong (by rw [List.size_toArray]; omega) (by omega)) ⟨e, ho, ?_⟩
  refine ⟨.non, _, I.lset (its' := its ++ its2) hH e (by simp) (r.append r2) ?_, rfl, q⟩
  rw [List.length_append]
  omega
/-- isinstance(x, C) of C's own instances -/
structure IsiC (K : PySem.W.Frag) (C : Addr) : Prop where
  c1 : PySem.W.findIn K (.ref C) "__class__" = some (some (.builtin "object.__class__"))
  c2 : PySem.W.specialIn K (.builtin "object.__class__") "__get__" = some (some (.builtin "getset_descriptor.__get__"))
  c3 : PySem.W.takesIn K (.builtin "object.__class__") = some true
  c4 : PySem.W.mroIn K C (.type "object") = some true
  kt : PySem.W.kitOne K (.ref C) (.ref C) = some true
theorem isi_own {K : PySem.W.Frag} {C r dx : Addr} {fs : List (Str × V)} {H : Hp} (i : IsiC K C) (c : Cls K C) (h : H r = some (.ins C dx fs)) : TyX K H (.ref r) (.ref C) := .base (.ins h c i.c1 i.c2 i.c3 i.c4)
/-- == and != of instances by the class's own == -/
def EqF (P : Program) (w : World) (K : PySem.W.Frag) (mg : Str → Option Value) (base : Heap) (k : Nat) (C : Addr) (sp : Sp) : Prop :=
  ∃ g, PySem.W.findIn K (.ref C) "__eq__" = some (some (.ref g)) ∧ PySem.W.isFn K (.ref g) = true ∧ FnR P w K mg base CX0 k g sp ∧ PySem.W.findIn K (.ref C) "__ne__" = some (some (.builtin "object.__ne__")) ∧ PySem.W.mroIn K C (.type "object") = some true
theorem EqF.mono {P : Program} {w : World} {K : PySem.W.Frag} {mg : Str → Option Value} {base : Heap} {j k : Nat} {C : Addr} {sp : Sp} (c : EqF P w K mg base j C sp) (h : j ≤ k) : EqF P w K mg base k C sp := by
  obtain ⟨g, a, b, d, e⟩ := c
  exact ⟨g, a, b, d.mono h, e⟩
section
variable {X : Cx} {C : Addr} {n : Nat} {sp : Sp}
theorem op_eqO (c : EqF X.prog X.w X.K X.mg X.base n C sp) (hr : Room n X.A) : OpR X (compareOp .Eq) (rOwnI C sp E0) := by
  obtain ⟨g, a, b, d, e⟩ := c
  exact op_eqI a b d hr pass0
theorem op_neO (c : EqF X.prog X.w X.K X.mg X.base n C sp) (hr : Room (n + 1) X.A) : OpR X (compareOp .NotEq) (rNeI C sp E0) := by
  obtain ⟨g, a, b, d, e, h⟩ := c
  exact op_neI e h a b d hr pass0
end
/-! ### len, repr, bool of an instance by the class's own defs -/
def OwnF (P : Program) (w : World) (K : PySem.W.Frag) (mg : Str → Option Value) (base : Heap) (k : Nat) (C : Addr) (m : Str) (sp : Sp) : Prop :=
  ∃ g, PySem.W.findIn K (.ref C) m = some (some (.ref g)) ∧ PySem.W.isFn K (.ref g) = true ∧ FnR P w K mg base CX0 k g sp
theorem OwnF.mono {P : Program} {w : World} {K : PySem.W.Frag} {mg : Str → Option Value} {base : Heap} {j k : Nat} {C : Addr} {m : Str} {sp : Sp} (c : OwnF P w K mg base j C m sp) (h : j ≤ k) : OwnF P w K mg base k C m sp := by
  obtain ⟨g, a, b, d⟩ := c
  exact ⟨g, a, b, d.mono h⟩
def rLenO (C : Addr) (sp : Sp) : List V → Hp → VK → Prop := fun xs H Q => ∃ a dx fs, xs = [V.ref a] ∧ H a = some (.ins C dx fs) ∧ sp [.ref a] H (fun v H' => ∃ n : Int, v = .int n ∧ 0 ≤ n ∧ n < 2 ^ 63 ∧ Q v H') E0
def rReprO (C : Addr) (sp : Sp) : List V → Hp → VK → Prop := fun xs H Q => ∃ a dx fs, xs = [V.ref a] ∧ H a = some (.ins C dx fs) ∧ sp [.ref a] H (fun v H' => ∃ n : Str, v = .str n ∧ Q v H') E0
def rBoolO (C : Addr) (sp : Sp) : List V → Hp → VK → Prop := fun xs H Q => ∃ a dx fs, xs = [V.ref a] ∧ H a = some (.ins C dx fs) ∧ sp [.ref a] H (fun v H' => ∃ n : Int, v = .int n ∧ 0 ≤ n ∧ n < 2 ^ 63 ∧ Q (.bl (n != 0)) H') E0
section
variable {X : Cx} {C : Addr} {n : Nat} {sp : Sp}
theorem call_lenO (c : OwnF X.prog X.w X.K X.mg X.base n C "__len__" sp) (hr : Room (n + 1) X.A) : CallR X (.builtin "len") (rLenO C sp) := by
  intro pins s σ H xs us Q I r h
  obtain ⟨a, dx, fs, rfl, ha, q⟩ := h
  obtain rfl := Vals.ref1 r
  obtain ⟨g, hs, hf, F⟩ := c
  obtain ⟨mA, J, _⟩ := ins_get I.hok ha
  obtain ⟨od, J, _⟩ := J.look
  obtain ⟨m, fr⟩ := I.fr
  have hr1 : Room n X.A.in1 := Room.in1 hr
  refine PySem.W.len_K fr I.ok.mod.kin J hs hf (wpAny_mono (wpAny_call (SlX.run_at (us := [.ref a]) (ws := [.ref a]) F hr1 I.env0.in1 pass0 I (.cons rfl .nil) q)) (fun v s' z => ?_) fun _ _ x => x)
  obtain ⟨z', H', I', rz, i, rfl, h0, h1, qz⟩ := z
  obtain ⟨t, rfl⟩ := (show ∃ t, v = Value.int i t from rz)
  exact ⟨⟨h0, h1⟩, .int i, H', I'.tok _, ⟨_, rfl⟩, qz⟩
theorem call_reprO (c : OwnF X.prog X.w X.K X.mg X.base n C "__repr__" sp) (hr : Room (n + 1) X.A) : CallR X (.builtin "repr") (rReprO C sp) := by
  intro pins s σ H xs us Q I r h
  obtain ⟨a, dx, fs, rfl, ha, q⟩ := h
  obtain rfl := Vals.ref1 r
  obtain ⟨g, hs, hf, F⟩ := c
  obtain ⟨mA, J, _⟩ := ins_get I.hok ha
  obtain ⟨od, J, _⟩ := J.look
  obtain ⟨m, fr⟩ := I.fr
  have hr1 : Room n X.A.in1 := Room.in1 hr
  refine PySem.W.repr_K hr1.units0 fr I.ok.mod.kin J hs hf (wpAny_mono (wpAny_call (SlX.run_at (us := [.ref a]) (ws := [.ref a]) F hr1 I.env0.in1 pass0 I (.cons rfl .nil) q)) (fun v s' z => ?_) fun _ _ x => x)
  obtain ⟨z', H', I', rz, i, rfl, qz⟩ := z
  obtain ⟨t, rfl⟩ := (show ∃ t, v = Value.str i t from rz)
  exact ⟨.str i, H', I', ⟨_, rfl⟩, qz⟩
end
section
variable {prog : Program} {w : World} {A : Around} {E : Value → Shared → Prop} {s : Shared} {K : PySem.W.Frag} {x C f : Addr} {ox : Obj} {od : Option Obj}
theorem len_bodyO {Q : Value → Shared → Prop} (X : K.In s.heap) (I : PySem.W.InstAt s.heap x ox C od) (hs : PySem.W.findIn K (.ref C) "__len__" = some (some (.ref f))) (hf : PySem.W.isFn K (.ref f) = true)
    (h : wpAny (model prog w) A (call (.ref f) [.ref x]) (PySem.W.LenBack Q) E s) : wpAny (model prog w) A (Builtin.«len» ⟨[.ref x], []⟩) (fun fin s' => ∃ r, fin = .done (.ret r) ∧ Q r s') E s := by
  unfold Builtin.«len»
  refine wpAny_bind (m := oneArg "len" _) (wpAny_pure ?_)
  refine wpAny_bind (m := callSpecial? (.ref x) (Str.ofString "__len__")) (PySem.W.special_fn X I hs (beq_iff_eq.mp hf) (wpAny_mono h (fun r s' hr => ?_) fun _ _ y => y))
  cases r <;> first | exact hr.elim | skip
  rename_i n u
  obtain ⟨⟨h0, h1⟩, hq⟩ := hr
  refine wpAny_bind (wpAny_holding (wpAny_pure ?_))
  refine wpAny_bind (wpAny_letGo ?_)
  show wpAny _ _ (if n < 0 then _ else _) _ _ _
  rw [if_neg (by omega)]
  show wpAny _ _ (if n ≥ 2 ^ 63 then _ else _) _ _ _
  rw [if_neg (by omega)]
  exact wpAny_bind (wpAny_mkInt (wpAny_pure ⟨_, rfl, hq⟩))
theorem truthyO {Q : Bool → Shared → Prop} (X : K.In s.heap) (I : PySem.W.InstAt s.heap x ox C od) (hb : PySem.W.findIn K (.ref C) "__bool__" = some none) (hs : PySem.W.findIn K (.ref C) "__len__" = some (some (.ref f))) (hf : PySem.W.isFn K (.ref f) = true)
    (h : wpAny (model prog w) A.in1 (call (.ref f) [.ref x]) (PySem.W.LenBack (fun v s' => ∃ n t, v = .int n t ∧ Q (n != 0) s')) E s) : wpAny (model prog w) A (truthy (.ref x)) Q E s := by
  have key : wpAny (model prog w) A (runValue (.builtin "len" ⟨[.ref x], []⟩)) (fun r s' => ∃ n t, r = .int n t ∧ Q (n != 0) s') E s := by
    refine wpAny_runValue (codeAny_builtin entry_len ?_)
    rw [Around.under_plainId plain_len _]
    exact wpAny_mono (len_bodyO (Q := fun r s' => ∃ n t, r = .int n t ∧ Q (n != 0) s') X I hs hf h) (fun fin s' h' => by obtain ⟨r, rfl, hq⟩ := h'; exact hq) fun _ _ e => e
  have hsp : ∀ {Q' : Option Value → Shared → Prop}, Q' (some (.ref f)) s → wpAny (model prog w) A (specialOf (.ref x) "__len__") Q' E s := fun q => by
    unfold specialOf
    exact wpAny_bind (I.type.here ((PySem.W.looks_findIn X hs).here q))
  have hno : ∀ {Q' : Option Value → Shared → Prop}, Q' none s → wpAny (model prog w) A (callSpecial? (.ref x) (Str.ofString "__bool__")) Q' E s := fun q => by
    unfold callSpecial? specialOf
    exact wpAny_bind (wpAny_bind (I.type.here ((PySem.W.looks_findIn X hb).here (wpAny_pure q))))
  unfold truthy
  first
    | refine wpAny_bind (hno ?_)
    | refine wpAny_bind (wpAny_pure (wpAny_bind (hno ?_)))
  first
    | refine wpAny_bind (hsp ?_)
    | refine wpAny_bind (wpAny_pure (wpAny_bind (hsp ?_)))
  first
    | exact wpAny_bind (wpAny_mono key (fun r s' h' => by obtain ⟨n, t, rfl, hq⟩ := h'; exact wpAny_pure hq) fun _ _ e => e)
    | exact wpAny_bind (wpAny_pure (wpAny_bind (wpAny_mono key (fun r s' h' => by obtain ⟨n, t, rfl, hq⟩ := h'; exact wpAny_pure hq) fun _ _ e => e)))
theorem meets_boolO (x : Addr) : MeetsIn prog w (Builtin.«bool.__new__» ⟨[.type "bool", .ref x], []⟩) (fun A R s => wpAny (model prog w) A.in1 (truthy (.ref x)) (fun b s' => R (.ok (.ret (.bool b))) s') (fun e s' => R (.error e) s') s) :=
  fun A R s hs => by
    obtain ⟨hp, g, d, tk, os⟩ := s
    have f1 := F.conv_sub_bool
    repeat (any_goals (first | assumption | (with_reducible refine wpAny_bind (wpAny_mono hs (fun b s' h => ?_) fun _ _ e => e)) | wp_step))
    all_goals first | exact ⟨_, rfl, h⟩ | exact h | skip
end
section
variable {X : Cx} {C : Addr} {n : Nat} {sp : Sp}
theorem call_boolO (hb : PySem.W.findIn X.K (.ref C) "__bool__" = some none) (c : OwnF X.prog X.w X.K X.mg X.base n C "__len__" sp) (hr : Room (n + 3) X.A) : CallR X (.type "bool") (rBoolO C sp) := by
  intro pins s σ H xs us Q I r h
  obtain ⟨a, dx, fs, rfl, ha, q⟩ := h
  obtain rfl := Vals.ref1 r
  obtain ⟨g, hs, hf, F⟩ := c
  obtain ⟨mA, J, _⟩ := ins_get I.hok ha
  obtain ⟨od, J, _⟩ := J.look
  have hr2 : Room n X.A.in1.in1.in1 := (show Room (n + 1) X.A.in1.in1 from (show Room (n + 2) X.A.in1 from Room.in1 hr).in1).in1
  refine callType_newIn PySem.F.called_bool PySem.F.newNe_bool (PySem.F.typeCall_bool_1 (.ref a)) (PySem.F.newCall_bool_1 (.ref a)) (fun obj => PySem.F.args_object_init_2 obj (.ref a)) PySem.F.entry_bool_new (meets_boolO a) ?_
  refine truthyO I.kIn J hb hs hf (wpAny_mono (wpAny_call (SlX.run_at (us := [.ref a]) (ws := [.ref a]) F hr2 I.env0.in1.in1.in1 pass0 I (.cons rfl .nil) q)) (fun v s' z => ?_) fun _ _ x => x)
  obtain ⟨z', H', I', rz, i, rfl, h0, h1, qz⟩ := z
  obtain ⟨t, rfl⟩ := (show ∃ t, v = Value.int i t from rz)
  exact ⟨⟨h0, h1⟩, i, _, rfl, rfl, .bl (i != 0), H', I'.tok _, rfl, qz⟩
end
end WB
namespace WB
open PySem PySem.Spec PyProof.Rows L2 Builtin
/-! ### == and != of an instance and something else -/
section
variable {prog : Program} {w : World} {A : Around} {E : Value → Shared → Prop} {s : Shared} {K : PySem.W.Frag} {x C f : Addr} {b tb : Value} {ox : Obj} {od : Option Obj}
theorem call_objNeY {Q : Value → Shared → Prop} (hu : A.in1.units < cLine) (X : K.In s.heap) (I : PySem.W.InstAt s.heap x ox C od) (hm : PySem.W.mroIn K C (.type "object") = some true)
    (hs : PySem.W.findIn K (.ref C) "__eq__" = some (some (.ref f))) (hf : PySem.W.isFn K (.ref f) = true)
    (h : wpAny (model prog w) A.in1 (call (.ref f) [.ref x, b]) (fun v s' => ∃ t, v = .bool t ∧ Q (.bool (!t)) s') E s) :
    wpAny (model prog w) A (call (.builtin "object.__ne__") [.ref x, b]) Q E s := by
  refine wpAny_call (codeAny_call_builtin F.cmp_object.ne.plain F.cmpEntry_ne (PySem.W.check_slot F.cmpKind_ne F.cmpSplit_ne (I.type.andThen (PySem.W.looks_mroIn X hm)) (F.cmpArgs_ne _ _) ?_))
  unfold Builtin.«object.__ne__»
  repeat (first | with_reducible refine wpAny_cRoomFor hu ?_ | with_reducible refine PySem.W.ifBound_K X I hs hf (wpAny_mono h (fun v s' hv => ?_) fun _ _ e => e) | wp_step)
  obtain ⟨t, rfl, q⟩ := hv
  exact wpAny_bind (wpAny_truthy_bool (wpAny_pure q))
theorem neY_K {Q : Value → Shared → Prop} (hu : A.units < cLine) (hu1 : A.in1.units < cLine) (X : K.In s.heap) (I : PySem.W.InstAt s.heap x ox C od) (hb : PySem.W.Looks (model prog w) s.heap (typeOf b) tb) (hn : PySem.W.notFirst K C tb = true)
    (hne : PySem.W.findIn K (.ref C) "__ne__" = some (some (.builtin "object.__ne__"))) (hm : PySem.W.mroIn K C (.type "object") = some true) (hs : PySem.W.findIn K (.ref C) "__eq__" = some (some (.ref f))) (hf : PySem.W.isFn K (.ref f) = true)
    (h : wpAny (model prog w) A.in1 (call (.ref f) [.ref x, b]) (fun v s' => ∃ t, v = .bool t ∧ Q (.bool (!t)) s') E s) : wpAny (model prog w) A (richCompare .NotEq (.ref x) b) Q E s := by
  have one : wpAny (model prog w) A (tryCompare (.ref x) (cmpInfo .NotEq).2.1 b) (fun r s' => ∃ v, r = some v ∧ Q v s') E s := by
    unfold tryCompare
    refine wpAny_bind (ifBound_objNe X I hne (call_objNeY hu1 X I hm hs hf (wpAny_mono h (fun v s' hv => ?_) fun _ _ e => e)))
    obtain ⟨t, rfl, q⟩ := hv
    exact ⟨t, rfl, wpAny_pure ⟨_, rfl, q⟩⟩
  unfold richCompare
  simp only [oneThing_ref]
  refine wpAny_holding (wpAny_bind (wpAny_cRoomFor hu ?_))
  refine wpAny_bind (I.type.here (wpAny_bind (hb.here ?_)))
  split
  · rename_i q
    have e : PySem.W.subIn K tb (.ref C) = some false := by
      rcases Bool.or_eq_true_iff.mp hn with e | e
      · rw [beq_iff_eq.mp e] at q; simp at q
      · exact beq_iff_eq.mp e
    refine wpAny_bind ((PySem.W.looks_subIn X e).here ?_)
    simp only [Bool.false_eq_true, if_false]
    refine wpAny_bind (wpAny_mono one (fun r s' z => ?_) fun _ _ e => e)
    obtain ⟨v, rfl, hq⟩ := z
    exact wpAny_pure hq
  · refine wpAny_bind (wpAny_pure ?_)
    simp only [Bool.false_eq_true, if_false]
    refine wpAny_bind (wpAny_mono one (fun r s' z => ?_) fun _ _ e => e)
    obtain ⟨v, rfl, hq⟩ := z
    exact wpAny_pure hq
end
def TyY (H : Hp) : V → Value → Prop := fun y t => (∃ p xs, y = .ref p ∧ H p = some (.lst xs) ∧ t = .type "list") ∨ (∃ x, y = .str x ∧ t = .type "str") ∨ (∃ i, y = .int i ∧ t = .type "int")
theorem tyY_looks {X : Cx} {pins : List (Addr × Obj)} {σ : L2.St} {H : Hp} {s : Shared} {y : V} {u t : Value} (I : Inv X pins σ H s) (ry : RelV y u) (h : TyY H y t) : PySem.W.Looks (model X.prog X.w) s.heap (typeOf u) t := by
  rcases h with ⟨p, xs, rfl, hp, rfl⟩ | ⟨x, rfl, rfl⟩ | ⟨i, rfl, rfl⟩
  · cases (show u = Value.ref p from ry)
    obtain ⟨_, _, n, _, h1⟩ := (show ObjOk X.prog X.w H s.heap p (.lst xs) from I.hok p _ hp)
    exact fun A Q E s' k q => wpAny_typeOf_ref (k _ _ h1) q
  · obtain ⟨t, rfl⟩ := (show ∃ t, u = Value.str x t from ry)
    exact fun A Q E s' k q => wpAny_pure q
  · obtain ⟨t, rfl⟩ := (show ∃ t, u = Value.int i t from ry)
    exact fun A Q E s' k q => wpAny_pure q
def rEqY (K : PySem.W.Frag) (C : Addr) (sp : Sp) : R2 := fun x y H Q => ∃ a dx fs t, x = .ref a ∧ H a = some (.ins C dx fs) ∧ TyY H y t ∧ PySem.W.subIn K t (.ref C) = some false ∧ sp [x, y] H Q E0
def rNeY (K : PySem.W.Frag) (C : Addr) (sp : Sp) : R2 := fun x y H Q => ∃ a dx fs t, x = .ref a ∧ H a = some (.ins C dx fs) ∧ TyY H y t ∧ PySem.W.subIn K t (.ref C) = some false ∧ sp [x, y] H (fun v H' => ∃ t, v = .bl t ∧ Q (.bl (!t)) H') E0
section
variable {X : Cx} {C : Addr} {n : Nat} {sp : Sp} (K : PySem.W.Frag)
theorem op_eqY (hK : X.K = K) (c : EqF X.prog X.w X.K X.mg X.base n C sp) (hr : Room n X.A) : OpR X (compareOp .Eq) (rEqY K C sp) := by
  subst hK
  obtain ⟨g, hs, hf, F, hne, hm⟩ := c
  intro pins s σ H x y v u Q I rx ry h
  obtain ⟨a, dx, fs, t, rfl, ha, ht, hsub, q⟩ := h
  cases (show v = Value.ref a from rx)
  obtain ⟨mA, J, _⟩ := ins_get I.hok ha
  obtain ⟨od, J, _⟩ := J.look
  obtain ⟨m, hF⟩ := I.fr
  show wpAny _ _ (richCompare .Eq (.ref a) u) _ _ _
  refine PySem.W.cmp_K (op := .Eq) (tb := t) hr.units0 hF I.ok.mod.kin J (tyY_looks I ry ht) (by unfold PySem.W.notFirst; rw [hsub]; simp) hs hf ?_
  refine wpAny_mono (wpAny_call (run_fnR (us := [.ref a, u]) (vs := [.ref a, y]) F hr pass0 I (.cons rfl (.cons ry .nil)) q)) (fun w s' z => ?_) fun _ _ x => x
  obtain ⟨z', H', I', rz, qz⟩ := z
  exact SlX.cmpback rz ⟨z', H', I', rz, qz⟩
theorem op_neY (hK : X.K = K) (c : EqF X.prog X.w X.K X.mg X.base n C sp) (hr : Room (n + 1) X.A) : OpR X (compareOp .NotEq) (rNeY K C sp) := by
  subst hK
  obtain ⟨g, hs, hf, F, hne, hm⟩ := c
  intro pins s σ H x y v u Q I rx ry h
  obtain ⟨a, dx, fs, t, rfl, ha, ht, hsub, q⟩ := h
  cases (show v = Value.ref a from rx)
  obtain ⟨mA, J, _⟩ := ins_get I.hok ha
  obtain ⟨od, J, _⟩ := J.look
  have hr1 : Room n X.A.in1 := Room.in1 hr
  refine neY_K (tb := t) hr.units0 hr1.units0 I.kIn J (tyY_looks I ry ht) (by unfold PySem.W.notFirst; rw [hsub]; simp) hne hm hs hf (wpAny_mono (wpAny_call (SlX.run_at (us := [.ref a, u]) (ws := [.ref a, y]) F hr1 I.env0.in1 pass0 I (.cons rfl (.cons ry .nil)) q)) (fun w s' z => ?_) fun _ _ x => x)
  obtain ⟨z', H', I', rz, t', rfl, qz⟩ := z
  cases (show w = Value.bool t' from rz)
  exact ⟨t', rfl, .bl (!t'), H', I', rfl, qz⟩
end
end WB
namespace WB
open PySem PySem.Spec PyProof.Rows L2
/-! ### what a call makes of a thing, and the run of a method within its own things -/
instance : NT (tG []) := ⟨fun H h a ha => by cases ha⟩
instance (T : Th) (Ts : List Th) [i : NT T] [j : NT (tG Ts)] : NT (tG (T :: Ts)) := ⟨fun H h a ha o e => by
  have g : Hs [] (T :: Ts) H := h
  have ha : a ∈ (T :: Ts).flatMap (·.ft) := ha
  rw [List.flatMap_cons] at ha
  rcases List.mem_append.mp ha with q | q
  · exact i.nt H g.head a q o e
  · exact j.nt H g.tail a q o e⟩
instance (r C dx : Addr) (fs : List (Str × V)) : NT (tO r (.ins C dx fs)) := ⟨fun H h b hb o e => by
  rw [in1 hb, h.1] at e
  cases e
  trivial⟩
instance (r : Addr) (ks : List (Key × V)) : NT (tO r (.dK ks)) := ⟨fun H h b hb o e => by
  rw [in1 hb, h.1] at e
  cases e
  trivial⟩
/-- T became these things, all of them of its places or new -/
structure Up (T : Th) (Us : List Th) (H H' : Hp) : Prop where
  mv : MvF T.ft H H'
  nt : ∀ a o, H a = some o → ¬ noT o → H' a = some o
  hs : Hs [] Us H'
  ow : ∀ x ∈ Us, ∀ a ∈ x.ft, a ∈ T.ft ∨ H a = none
theorem nt_of {T : Th} [i : NT T] {H H' : Hp} (h : T.P H) (m : MvF T.ft H H') : ∀ a o, H a = some o → ¬ noT o → H' a = some o := fun a o e n => m.kp a o (fun z => n (i.nt H h a z o e)) e
section
variable {K : PySem.W.Frag} {L : List (Addr × List V)} {T0 : List (Addr × Str)} {Ts Us : List Th} {T : Th} {H H' : Hp}
theorem Hs.upH (h : Hs T0 (T :: Ts) H) (u : Up T Us H H') : Hs T0 (Us ++ Ts) H' := by
  have t : Hs T0 Ts H' := by
    refine ⟨fun i x hi => x.loc H H' (fun a ha o e => u.mv.kp a o (fun z => ?_) e) (h.tail.all i x hi), h.tail.sep, tabs_keep h.tab fun a o e np => u.mv.kp a o (fun z => ?_) e⟩
    · exact h.apart (List.mem_of_getElem? hi) a z ha
    · obtain ⟨o', e1, e2⟩ := T.al H h.head a z
      rw [e1] at e
      cases e
      exact np e2
  refine Hs.app u.hs t (fun x hx y hy a ha hb => ?_)
  rcases u.ow x hx a ha with z | z
  · exact h.apart hy a z hb
  · obtain ⟨i, hi⟩ := List.getElem?_of_mem hy
    exact y.live (h.tail.all i y hi) hb z
theorem Hw.upH (h : Hw K L T0 (T :: Ts) H) (u : Up T Us H H') : Hw K L T0 (Us ++ Ts) H' := ⟨h.hs.upH u, fun p hp => sqT_keep (fun o e n => u.nt _ o e n) (h.tf p hp)⟩
theorem Hw.frontI (h : Hw K L T0 Ts H) (i : Nat) (hi : Ts[i]? = some T) : Hw K L T0 (T :: Ts.eraseIdx i) H := ⟨h.hs.perm (perm_at hi).symm, h.tf⟩
theorem Hw.up (h : Hw K L T0 Ts H) (i : Nat) (hi : Ts[i]? = some T) (u : Up T Us H H') : Hw K L T0 (Us ++ Ts.eraseIdx i) H' := (h.frontI i hi).upH u
/-- only new things came -/
theorem Hw.upN (h : Hw K L T0 Ts H) (u : Up (tG []) Us H H') : Hw K L T0 (Us ++ Ts) H' := Hw.upH (T := tG []) ⟨Hs.group (Ts := []) h.hs, h.tf⟩ u
end
/-- within a call: the own things, what changed since its beginning -/
structure Rn (K : PySem.W.Frag) (H0 : Hp) (F : List Addr) (L : List (Addr × List V)) (Ts : List Th) (H : Hp) : Prop where
  hw : Hw K L [] Ts H
  mv : MvF F H0 H
  nt : ∀ a o, H0 a = some o → ¬ noT o → H a = some o
  ow : ∀ x ∈ Ts, ∀ a ∈ x.ft, a ∈ F ∨ H0 a = none
section
variable {K : PySem.W.Frag} {L L' : List (Addr × List V)} {Ts Us As Bs : List Th} {T T' : Th} {H0 H H' : Hp} {F : List Addr} {a p : Addr} {xs ys : List V} {o o' : HO}
theorem Rn.start {Ts : List Th} (h : (tG Ts).P H) : Rn K H (tG Ts).ft [] Ts H := ⟨.of h, .refl _ _, fun _ _ e _ => e, fun x hx a ha => .inl (List.mem_flatMap.mpr ⟨x, hx, ha⟩)⟩
theorem Rn.start0 : Rn K H [] [] [] H := ⟨.of .nil0, .refl _ _, fun _ _ e _ => e, fun x hx => absurd hx List.not_mem_nil⟩
theorem Rn.at (h : Rn K H0 F L Ts H) (i : Nat) (hi : Ts[i]? = some (tO p o)) : H p = some o := h.hw.at i hi
theorem Rn.get (h : Rn K H0 F L Ts H) (i : Nat) (hi : Ts[i]? = some T) : T.P H := h.hw.get i hi
theorem Rn.tup (h : Rn K H0 F L Ts H) (i : Nat) (hi : L[i]? = some (a, xs)) : SqT K H a xs := h.hw.tup i hi
theorem Rn.same (h : Rn K H0 F L Ts H) (s : Same H H') : Rn K H0 F L Ts H' := ⟨h.hw.same s, h.mv.same s, fun a o e n => s a o (h.nt a o e n), h.ow⟩
theorem Rn.know (h : Rn K H0 F L Ts H) (t : SqT K H a xs) : Rn K H0 F ((a, xs) :: L) Ts H := ⟨h.hw.know t, h.mv, h.nt, h.ow⟩
theorem Rn.knows (h : Rn K H0 F L Ts H) (t : TF K L' H) : Rn K H0 F (L' ++ L) Ts H := ⟨⟨h.hw.hs, fun p hp => (List.mem_append.mp hp).elim (t p) (h.hw.tf p)⟩, h.mv, h.nt, h.ow⟩
theorem Rn.selT (h : Rn K H0 F L Ts H) (hs : ∀ q ∈ L', q ∈ L) : Rn K H0 F L' Ts H := ⟨h.hw.selT hs, h.mv, h.nt, h.ow⟩
theorem mem_pickTs : ∀ {is : List Nat} {x : Th}, x ∈ pickTs Ts is → x ∈ Ts := fun {is x} h => by
  obtain ⟨k, hk⟩ := List.getElem?_of_mem h
  obtain ⟨i, _, q⟩ := mem_pick hk
  exact List.mem_of_getElem? q
theorem Rn.sel (h : Rn K H0 F L Ts H) (is : List Nat) (hn : is.Nodup) : Rn K H0 F L (pickTs Ts is) H := ⟨h.hw.sel is hn, h.mv, h.nt, fun x hx => h.ow x (mem_pickTs hx)⟩
theorem Rn.free (h : Rn K H0 F L Ts H) (n : H p = none) : H0 p = none := h.mv.free n
theorem Rn.keep (h : Rn K H0 F L Ts H) (n : a ∉ F) (e : H0 a = some o) : H a = some o := h.mv.kp a o n e
theorem Rn.keepT (h : Rn K H0 F L Ts H) (e : SqT K H0 a xs) : SqT K H a xs := sqT_keep (fun o e n => h.nt _ o e n) e
theorem sqL_keep {H H' : Hp} (kp : ∀ o, H a = some o → H' a = some o) (h : SqL K H a xs) : SqL K H' a xs := by
  rcases h with (h | ⟨o, h⟩) | h
  · exact .inl (.inl (kp _ h))
  · exact .inl (.inr ⟨o, kp _ h⟩)
  · exact .inr h
theorem Rn.keepL (h : Rn K H0 F L Ts H) (n : a ∉ F) (e : SqL K H0 a xs) : SqL K H a xs := sqL_keep (fun o e => h.mv.kp _ o n e) e
theorem Rn.up (h : Rn K H0 F L Ts H) (i : Nat) (hi : Ts[i]? = some T) (u : Up T Us H H') : Rn K H0 F L (Us ++ Ts.eraseIdx i) H' := by
  have hT := h.ow T (List.mem_of_getElem? hi)
  refine ⟨h.hw.up i hi u, h.mv.trans2 u.mv hT, fun a o e n => u.nt a o (h.nt a o e n) n, fun x hx a ha => ?_⟩
  rcases List.mem_append.mp hx with q | q
  · rcases u.ow x q a ha with z | z
    · exact hT a z
    · exact .inr (h.free z)
  · exact h.ow x (List.mem_of_mem_eraseIdx q) a ha
theorem Rn.upN (h : Rn K H0 F L Ts H) (u : Up (tG []) Us H H') : Rn K H0 F L (Us ++ Ts) H' := by
  refine ⟨h.hw.upN u, h.mv.same u.mv.toSame, fun a o e n => u.nt a o (h.nt a o e n) n, fun x hx a ha => ?_⟩
  rcases List.mem_append.mp hx with q | q
  · rcases u.ow x q a ha with z | z
    · cases z
    · exact .inr (h.free z)
  · exact h.ow x q a ha
theorem up_put {p : Addr} {o o' : HO} (e : H p = some o) (n : noT o) (pl : plain o' := by exact trivial) : Up (tO p o) [tO p o'] H (upd H p o') := by
  have m : MvF [p] H (upd H p o') := (MvF.refl [p] H).upd (.head _)
  refine ⟨m, fun a u eu nu => m.kp a u (fun z => ?_) eu, Hs.nil0.cons ⟨upd_same, pl⟩ (fun j y hj => by cases hj), fun x hx a ha => ?_⟩
  · rw [in1 z, e] at eu
    cases eu
    exact nu n
  · rw [List.mem_singleton.mp hx] at ha
    exact .inl ha
theorem up_new {p : Addr} {o : HO} (n : H p = none) (pl : plain o := by exact trivial) : Up (tG []) [tO p o] H (upd H p o) :=
  ⟨.of (same_upd n), fun a u e _ => same_upd n a u e, Hs.nil0.cons ⟨upd_same, pl⟩ (fun j y hj => by cases hj), fun x hx a ha => by
    rw [List.mem_singleton.mp hx] at ha
    rw [in1 ha]
    exact .inr n⟩
theorem up_newS {p : Addr} {o : HO} (s : Same H H') (n : H p = none) (e : H' p = some o) (pl : plain o := by exact trivial) : Up (tG []) [tO p o] H H' :=
  ⟨.of s, fun a u e _ => s a u e, Hs.nil0.cons ⟨e, pl⟩ (fun j y hj => by cases hj), fun x hx a ha => by
    rw [List.mem_singleton.mp hx] at ha
    rw [in1 ha]
    exact .inr n⟩
theorem Rn.put (h : Rn K H0 F L Ts H) (i : Nat) (hi : Ts[i]? = some (tO p o)) (n : noT o := by exact trivial) (pl : plain o' := by exact trivial) : Rn K H0 F L ([tO p o'] ++ Ts.eraseIdx i) (upd H p o') := h.up i hi (up_put (h.at i hi) n pl)
theorem Rn.newL (h : Rn K H0 F L Ts H) (n : H p = none) : Rn K H0 F L (tL p xs :: Ts) (upd H p (.lst xs)) := h.upN (up_new n)
theorem Rn.newO (h : Rn K H0 F L Ts H) (n : H p = none) (pl : plain o := by exact trivial) : Rn K H0 F L (tO p o :: Ts) (upd H p o) := h.upN (up_new n pl)
theorem Rn.newS (h : Rn K H0 F L Ts H) (s : Same H H') (n : H p = none) (e : H' p = some o) (pl : plain o := by exact trivial) : Rn K H0 F L (tO p o :: Ts) H' := h.upN (up_newS s n e pl)
theorem Rn.newT (h : Rn K H0 F L Ts H) (n : H p = none) : Rn K H0 F ((p, xs) :: L) Ts (upd H p (.tup xs)) := (h.same (same_upd n)).know (SqT.of upd_same)
theorem flat_ft {a : Addr} (ha : a ∈ (tG As).ft) : ∃ x ∈ As, a ∈ x.ft := List.mem_flatMap.mp ha
theorem Rn.grp {As Bs : List Th} (h : Rn K H0 F L (As ++ Bs) H) : Rn K H0 F L (tG As :: Bs) H := ⟨⟨h.hw.hs.group, h.hw.tf⟩, h.mv, h.nt, fun x hx a ha => by
  rcases List.mem_cons.mp hx with q | q
  · rw [q] at ha
    obtain ⟨y, hy, ha⟩ := flat_ft ha
    exact h.ow y (List.mem_append_left _ hy) a ha
  · exact h.ow x (List.mem_append_right _ q) a ha⟩
theorem Rn.ungrp {As Bs : List Th} (h : Rn K H0 F L (tG As :: Bs) H) : Rn K H0 F L (As ++ Bs) H := ⟨⟨h.hw.hs.ungroup, h.hw.tf⟩, h.mv, h.nt, fun x hx a ha => by
  rcases List.mem_append.mp hx with q | q
  · exact h.ow (tG As) (.head _) a (List.mem_flatMap.mpr ⟨x, q, ha⟩)
  · exact h.ow x (.tail _ q) a ha⟩
theorem Rn.out (h : Rn K H0 (tG As).ft L Us H) : Up (tG As) Us H0 H := ⟨h.mv, h.nt, h.hw.hs.tabs0, fun x hx a ha => h.ow x hx a ha⟩
theorem Rn.out0 (h : Rn K H0 [] L Us H) : Up (tG []) Us H0 H := ⟨h.mv, h.nt, h.hw.hs.tabs0, fun x hx a ha => h.ow x hx a ha⟩
theorem Hw.grp {T0 : List (Addr × Str)} {As Bs : List Th} (h : Hw K L T0 (As ++ Bs) H) : Hw K L T0 (tG As :: Bs) H := ⟨h.hs.group, h.tf⟩
theorem Hw.ungrp {T0 : List (Addr × Str)} {As Bs : List Th} (h : Hw K L T0 (tG As :: Bs) H) : Hw K L T0 (As ++ Bs) H := ⟨h.hs.ungroup, h.tf⟩
/-- a thing taken apart, one of its own changed, put together again -/
theorem Up.refl (T : Th) (h : T.P H) : Up T [T] H H := ⟨.refl _ _, fun _ _ e _ => e, Hs.nil0.cons h (fun j y hj => by cases hj), fun x hx a ha => by rw [List.mem_singleton.mp hx] at ha; exact .inl ha⟩
end
end WB
namespace WB
open PySem PySem.Spec PyProof.Rows L2
/-! ### list(zip(xs, ys)) of two lists -/
theorem zl_no_len : typeLookup (.type "zip") "__len__" = pure none := by rw [typeLookup_type, builtinLookup_eq_fast]; kernel_rfl
theorem zl_no_hint : typeLookup (.type "zip") "__length_hint__" = pure none := by rw [typeLookup_type, builtinLookup_eq_fast]; kernel_rfl
/-- how far the zip is -/
def ZlAt (h : Heap) (z TI TO i1 i2 a b S : Addr) (i : Nat) : Prop :=
  IsPair h TI (.ref i1) (.ref i2) ∧ h.IsListIter i1 a i ∧ h.IsListIter i2 b i ∧
    ((IsZip h z TI TO .none ∧ ∃ x y, IsPair h TO x y) ∨ ∃ T f oT, IsZipHeld h z TI TO T f ∧ h.get? T = some oT ∧ T ≠ z ∧ T ≠ i1 ∧ T ≠ i2 ∧ T ≠ S) ∧ ∃ o, h.get? TO = some o
theorem ZlAt.but {h h' : Heap} {z TI TO i1 i2 a b S : Addr} {i : Nat} (x : ZlAt h z TI TO i1 i2 a b S i) (n1 : S ≠ z) (n2 : S ≠ TI) (n3 : S ≠ TO) (n4 : S ≠ i1) (n5 : S ≠ i2) (k : ∀ c o, c ≠ S → h.get? c = some o → h'.get? c = some o) : ZlAt h' z TI TO i1 i2 a b S i := by
  obtain ⟨x1, x2, x3, x4, oO, hO'⟩ := x
  refine ⟨k _ _ (Ne.symm n2) x1, x2.at fun o e => k _ o (Ne.symm n4) e, x3.at fun o e => k _ o (Ne.symm n5) e, ?_, oO, k _ _ (Ne.symm n3) hO'⟩
  rcases x4 with ⟨hz, x, y, hO⟩ | ⟨T, f, oT, hz, hT, r1, r2, r3, r4⟩
  · exact .inl ⟨k _ _ (Ne.symm n1) hz, x, y, k _ _ (Ne.symm n3) hO⟩
  · exact .inr ⟨T, f, oT, k _ _ (Ne.symm n1) hz, k _ _ r4 hT, r1, r2, r3, r4⟩
structure ZlOut (K : PySem.W.Frag) (H H' : Hp) (S : Addr) (xs ys : List V) (n : Nat) : Prop where
  same : ∀ c o, c ≠ S → H c = some o → H' c = some o
  lst : ∃ ts : List Addr, H' S = some (.lst (ts.map V.ref)) ∧ ts.length = n ∧ ∀ (j : Nat) (t : Addr), ts[j]? = some t → t ≠ S ∧ H t = none ∧ ∃ x y, xs[j]? = some x ∧ ys[j]? = some y ∧ H' t = some (.tup [x, y])
section
variable {X : Cx} {pins : List (Addr × Obj)} {σ : L2.St} {xs ys : List V} {z TI TO i1 i2 a b S : Addr}
theorem zl_loop (hc : X.calm = true) (D : ZipApart z TI TO i1 i2 a b) (S1 : S ≠ z) (S2 : S ≠ TI) (S3 : S ≠ TO) (S4 : S ≠ i1) (S5 : S ≠ i2) (hn : xs.length ≤ sizeLine) (hl : xs.length = ys.length) {H0 : Hp} {A : Around} (hA : A.handled = none) {R : Result → Shared → Prop}
    (hR : ∀ H' s', Inv X pins σ H' s' → ZlOut X.K H0 H' S xs ys xs.length → R (.ok (.ret .none)) s') :
    ∀ (k i : Nat) (H : Hp) (s : Shared), xs.length - i = k → i ≤ xs.length → Inv X pins σ H s → (∀ c ∈ [z, TI, TO, i1, i2], FpOk X pins H c) → SqL X.K H a xs → SqL X.K H b ys → ZlAt s.heap z TI TO i1 i2 a b S i → ZlOut X.K H0 H S xs ys i → a ≠ S → b ≠ S →
      codeAny (model X.prog X.w) A (.builtin "list.extend.loop" ⟨[.ref S, .ref z, .none], []⟩) R s := by
  intro k
  induction k with
  | zero =>
    intro i H s hk hi I hf qa qb st out aS bS
    have hin : i = xs.length := by omega
    subst hin
    obtain ⟨its, rv, pa, _⟩ := I.list qa
    obtain ⟨its2, rv2, pb, _⟩ := I.list qb
    have l1 := rv.length
    have he : its.toArray[xs.length]? = none ∨ its2.toArray[xs.length]? = none := .inl (by simp; omega)
    refine codeAny_builtin PySem.F.entry_extend_loop ?_
    rw [Around.under_plainId PySem.F.plain_extend_loop _]
    show wpAny _ A.in1 (pyNext (.ref z) >>= _) _ _ _
    obtain ⟨hI, h1, h2, hz, oO, hO'⟩ := st
    have fin : ∀ h', (∀ c o, c ≠ z → c ≠ TO → c ≠ i1 → c ≠ i2 → s.heap.get? c = some o → h'.get? c = some o) → R (.ok (.ret .none)) { s with heap := h' } := fun h' hk' =>
      hR H _ (I.turnedL (t' := s.toks) (ch := [z, TI, TO, i1, i2]) (fun c o hb q => hk' c o (fun q' => hb (by simp [q'])) (fun q' => hb (by simp [q'])) (fun q' => hb (by simp [q'])) (fun q' => hb (by simp [q'])) q) hf) out
    rcases hz with ⟨hz, x, y, hO⟩ | ⟨T, f, oT, hz, hT, r1, r2, r3, r4⟩
    · exact wpAny_bind (wpAny_pyNext_zip_end (A := A.in1) hA D hz hI hO h1 h2 pa.isList pb.isList he fun h' hk' => wpAny_pure (fin h' hk'))
    · exact wpAny_bind (wpAny_pyNext_zip_end_held (A := A.in1) hA D hz hT hI h1 h2 pa.isList pb.isList he fun h' hk' => wpAny_pure (fin h' fun c o c1 _ c3 c4 e => hk' c o c1 c3 c4 e))
  | succ k ih =>
    intro i H s hk hi I hf qa qb st out aS bS
    have hlt : i < xs.length := by omega
    obtain ⟨its, rv, pa, _⟩ := I.list qa
    obtain ⟨its2, rv2, pb, _⟩ := I.list qb
    obtain ⟨x, hx⟩ := getElem?_ex hlt
    obtain ⟨y, hy⟩ := getElem?_ex (show i < ys.length by omega)
    obtain ⟨u, hu, ru⟩ := rv.get hx
    obtain ⟨v, hv, rw_⟩ := rv2.get hy
    have ex : its.toArray[i]? = some u := by simpa using hu
    have ey : its2.toArray[i]? = some v := by simpa using hv
    refine codeAny_builtin PySem.F.entry_extend_loop ?_
    rw [Around.under_plainId PySem.F.plain_extend_loop _]
    show wpAny _ A.in1 (pyNext (.ref z) >>= _) _ _ _
    obtain ⟨hI, h1, h2, hz, oO, hO'⟩ := st
    obtain ⟨sm, ts, hSl, htl, hts⟩ := out
    have lt : ∀ {c o}, s.heap.get? c = some o → s.heap.objs.size ≠ c := fun e => Nat.ne_of_gt (Heap.lt_size e)
    have n1 : s.heap.objs.size ≠ i1 := let ⟨_, e, _⟩ := h1; lt e
    have n2 : s.heap.objs.size ≠ i2 := let ⟨_, e, _⟩ := h2; lt e
    have nS : s.heap.objs.size ≠ S := Nat.ne_of_gt (I.hok.lt hSl)
    have na : s.heap.objs.size ≠ a := Nat.ne_of_gt pa.lt
    have nb : s.heap.objs.size ≠ b := Nat.ne_of_gt pb.lt
    have nTI : s.heap.objs.size ≠ TI := lt hI
    have nz : s.heap.objs.size ≠ z := by rcases hz with ⟨hz, _⟩ | ⟨_, _, _, hz, _⟩ <;> exact lt hz
    have hfr : H s.heap.objs.size = none := I.hok.fresh (Nat.le_refl _)
    -- what follows a draw
    have after : ∀ h', IsPair h' TI (.ref i1) (.ref i2) → h'.IsListIter i1 a (i + 1) → h'.IsListIter i2 b (i + 1) → IsPair h' s.heap.objs.size u v →
        (∃ T f oT, IsZipHeld h' z TI TO T f ∧ h'.get? T = some oT ∧ T ≠ z ∧ T ≠ i1 ∧ T ≠ i2 ∧ T ≠ S) → (∃ o, h'.get? TO = some o) →
        (∀ c o, c ≠ z → c ≠ TO → c ≠ i1 → c ≠ i2 → s.heap.get? c = some o → h'.get? c = some o) →
        wpAny (model X.prog X.w) A.in1 (updateSeq S (·.push (Value.ref s.heap.objs.size)) >>= fun _ => again (.builtin "list.extend.loop" ⟨[.ref S, .ref z, .none], []⟩))
          (fun fin s' => match fin with | .done f => R (.ok f) s' | .again c' => c'.quiet = true ∧ codeAny (model X.prog X.w) A c' R s') (fun e s' => R (.error e) s') { s with heap := h' } := by
      intro h' a1 a3 a4 a5 a6 a7 hk'
      have J : Inv X pins σ (upd H s.heap.objs.size (.tup [x, y])) { s with heap := h', toks := s.toks } :=
        I.turnedNew (ch := [z, TI, TO, i1, i2]) (fun c o hb q => hk' c o (fun q' => hb (by simp [q'])) (fun q' => hb (by simp [q'])) (fun q' => hb (by simp [q'])) (fun q' => hb (by simp [q'])) q) hf (Nat.le_refl _) ⟨by show 2 ≤ sizeLine; decide, [u, v], .cons ru (.cons rw_ .nil), _, a5, rfl, _, rfl⟩
      have hS' : upd H s.heap.objs.size (.tup [x, y]) S = some (.lst (ts.map V.ref)) := by rw [upd_ne (Ne.symm nS)]; exact hSl
      obtain ⟨hz0, its3, nn, r3, l3, e3⟩ := J.lstM hS'
      have e3 : h'.get? S = some { cls := .type "list", data := .seq its3.toArray nn } := e3
      have hlen : its3.length = i := by rw [← l3, List.length_map, htl]
      refine wpAny_bind ?_
      refine wpAny_updateSeq (s := { s with heap := h' }) e3 rfl (wpAny_pure ⟨plainId_quiet PySem.F.plain_extend_loop _, ?_⟩) (by rw [List.size_toArray]; omega) (by rw [Array.size_push, List.size_toArray]; omega)
      have J2 := J.lset (its' := its3 ++ [Value.ref s.heap.objs.size]) (ys := ts.map V.ref ++ [V.ref s.heap.objs.size]) (t' := s.toks) hS' e3 (f := (·.push (Value.ref s.heap.objs.size))) (by simp) (r3.append (.cons rfl .nil)) (by rw [List.length_append, List.length_map]; show ts.length + 1 ≤ _; omega)
      have up : ∀ c o, c ≠ S → h'.get? c = some o → (h'.update S (Obj.mapSeq (·.push (Value.ref s.heap.objs.size)))).get? c = some o := fun c o hb e => (Heap.get?_update_other _ _ (Ne.symm hb)).trans e
      have keepH : ∀ c o, c ≠ S → H c = some o → upd (upd H s.heap.objs.size (.tup [x, y])) S (.lst (ts.map V.ref ++ [V.ref s.heap.objs.size])) c = some o := fun c o hb e => by rw [upd_ne hb, upd_ne (ne_of_none e hfr)]; exact e
      have sqk : ∀ {c l}, c ≠ S → SqL X.K H c l → SqL X.K (upd (upd H s.heap.objs.size (.tup [x, y])) S (.lst (ts.map V.ref ++ [V.ref s.heap.objs.size]))) c l := fun {c l} hb e => by
        rcases e with (e | ⟨o, e⟩) | e
        · exact .inl (.inl (keepH _ _ hb e))
        · exact .inl (.inr ⟨o, keepH _ _ hb e⟩)
        · exact .inr e
      refine ih (i + 1) _ _ (by omega) hlt J2 (fun c hcm => ?_) (sqk aS qa) (sqk bS qb) (ZlAt.but ⟨a1, a3, a4, .inr a6, a7⟩ S1 S2 S3 S4 S5 up) ⟨fun c o hb e => keepH c o hb (sm c o hb e), ts ++ [s.heap.objs.size], ?_, ?_, ?_⟩ aS bS
      · obtain ⟨f1, f2⟩ := hf c hcm
        refine ⟨?_, f2⟩
        have c1 : c ≠ S := by
          simp only [List.mem_cons, List.not_mem_nil, or_false] at hcm
          rcases hcm with rfl | rfl | rfl | rfl | rfl
          · exact Ne.symm S1
          · exact Ne.symm S2
          · exact Ne.symm S3
          · exact Ne.symm S4
          · exact Ne.symm S5
        have c2 : c ≠ s.heap.objs.size := by
          intro e
          have : ∃ o, s.heap.get? c = some o := by
            simp only [List.mem_cons, List.not_mem_nil, or_false] at hcm
            rcases hcm with rfl | rfl | rfl | rfl | rfl
            · rcases hz with ⟨hz, _⟩ | ⟨_, _, _, hz, _⟩ <;> exact ⟨_, hz⟩
            · exact ⟨_, hI⟩
            · exact ⟨_, hO'⟩
            · exact let ⟨o, e, _⟩ := h1; ⟨o, e⟩
            · exact let ⟨o, e, _⟩ := h2; ⟨o, e⟩
          obtain ⟨o, e2⟩ := this
          exact lt e2 e.symm
        rw [upd_ne c1, upd_ne c2]
        exact f1
      · rw [upd_same, List.map_append]
        rfl
      · rw [List.length_append, htl]
        rfl
      · intro j t hj
        by_cases hjl : j < ts.length
        · rw [List.getElem?_append_left hjl] at hj
          obtain ⟨t1, t2, x', y', e1, e2, e3⟩ := hts j t hj
          exact ⟨t1, t2, x', y', e1, e2, keepH _ _ t1 e3⟩
        · have hj' := List.getElem?_eq_some_iff.mp hj
          have : j = i := by
            have := hj'.1
            rw [List.length_append, htl] at this
            have : j < i + 1 := this
            omega
          subst this
          rw [List.getElem?_append_right (by omega), show j - ts.length = 0 by omega] at hj
          have : t = s.heap.objs.size := (Option.some.inj hj).symm
          subst this
          refine ⟨nS, ?_, x, y, hx, hy, ?_⟩
          · cases e : H0 s.heap.objs.size with
            | none => rfl
            | some o => exact absurd (sm _ _ nS e) (by rw [hfr]; exact fun q => nomatch q)
          · rw [upd_ne nS, upd_same]
    rcases hz with ⟨hz, x0, y0, hO⟩ | ⟨T, f, oT, hz, hT, r1, r2, r3, r4⟩
    · refine wpAny_bind (wpAny_pyNext_zip_item D hz hI hO h1 h2 pa.isList pb.isList ex ey fun h' b1 b2 b3 b4 b5 b6 hk' => ?_)
      exact after h' (hk' _ _ D.TIz D.TITO D.TIi1 D.TIi2 hI) b3 b4 b5 ⟨s.heap.objs.size, false, _, b1, b5, nz, n1, n2, nS⟩ ⟨_, b2⟩ hk'
    · refine wpAny_bind (wpAny_pyNext_zip_item_held D hz hT hI h1 h2 pa.isList pb.isList ex ey fun h' b1 b3 b4 b5 b6 hk' => ?_)
      exact after h' (hk' _ _ D.TIz D.TIi1 D.TIi2 hI) b3 b4 b5 ⟨T, true, oT, b1, hk' _ _ r1 r2 r3 hT, r1, r2, r3, r4⟩ ⟨_, hk' _ _ D.TOz D.TOi1 D.TOi2 hO'⟩ (fun c o c1 _ c3 c4 e => hk' c o c1 c3 c4 e)
end
/-- list(zip(a, b)): a list of new pairs -/
def tListZip (K : PySem.W.Frag) (ta : TA) : TE := fun σ H Q => ta σ H fun vs H1 => ∃ a b xs ys, vs = [.ref a, .ref b] ∧ SqL K H1 a xs ∧ SqL K H1 b ys ∧ xs.length = ys.length ∧ xs.length ≤ 100000 ∧
  ∀ (H' : Hp) (l : Addr) (ts : List Addr), Same H1 H' → H1 l = none → H' l = some (.lst (ts.map V.ref)) → ts.length = xs.length → (∀ (j : Nat) (t : Addr), ts[j]? = some t → t ≠ l ∧ H1 t = none ∧ ∃ x y, xs[j]? = some x ∧ ys[j]? = some y ∧ H' t = some (.tup [x, y])) → Q (.ref l) H'
theorem pe_listzip {X : Cx} (K : PySem.W.Frag) (hK : X.K = K) {e e2 : Expr} {ta : TA} {p p2 pos pos2 : Pos} (hg : Gl X "list") (hm : X.mg "list" = none) (hg2 : Gl X "zip") (hm2 : X.mg "zip" = none) (ha : PA X [e, e2] ta) (hc : X.calm = true := by rfl)
    (hs : starEach [e, e2] X.env = (false, eval e X.env) :: starEach [e2] X.env := by rfl) (hpl : (backTo pos2 (starEach [e2] X.env)).any (·.1) = false := by rfl)
    (hs2 : starEach [.Call (.Name "zip" p2) [e, e2] [] pos2] X.env = (false, eval (.Call (.Name "zip" p2) [e, e2] [] pos2) X.env) :: starEach [] X.env := by rfl) (hpl2 : (backTo pos (starEach [] X.env)).any (·.1) = false := by rfl) :
    PE X (.Call (.Name "list" p) [.Call (.Name "zip" p2) [e, e2] [] pos2] [] pos) (tListZip K ta) := by
  subst hK
  refine ⟨fun pins s σ H Q I h => ?_⟩
  refine wpAny_Call_Name_kw (ld_blt I hg hm PyProof.Rows.boot_list (PyProof.Rows.callWith_type1 ?_ hs2 hpl2))
  rw [hs2]
  show wpAny _ _ (spliced ((false, eval (.Call (.Name "zip" p2) [e, e2] [] pos2) X.env) :: backTo pos (starEach [] X.env))) _ _ s
  refine Calls.spliced_cons ?_
  refine wpAny_Call_Name_kw (ld_blt I hg2 hm2 PyProof.Rows.boot_zip (PyProof.Rows.callWith_type1 (thn (ha.run pos2 pins s σ H _ I h) fun us s1 y => ?_) hs hpl))
  obtain ⟨vs, H1, I1, r1, a, b, xs, ys, ex, hqx, hqy, hl, hz, q⟩ := y
  subst ex
  cases r1 with
  | cons r rr =>
  cases rr with
  | cons r' rr =>
  cases rr
  cases r
  cases r'
  obtain ⟨its, rv, p1, _⟩ := I1.list hqx
  obtain ⟨its2, rv2, p2', _⟩ := I1.list hqy
  have la : a < s1.heap.objs.size := p1.lt
  have lb : b < s1.heap.objs.size := p2'.lt
  refine call_zip_2 p1.isList p2'.isList fun h' hzz hTI hTO h1 h2 hsz hk => ?_
  have I2 : Inv X pins σ H1 { s1 with heap := h' } := I1.kept (t' := s1.toks) hk
  refine Calls.spliced_nil ?_
  have D := PySem.W.ktu_apart s1.heap.objs.size a b la lb
  have hfr : ∀ c, s1.heap.objs.size ≤ c → H1 c = none := fun c hc => I1.hok.fresh hc
  generalize hN : s1.heap.objs.size = N at *
  have hf : ∀ c ∈ [N + 4, N + 2, N + 3, N, N + 1], FpOk X pins H1 c := fun c hcm => by
    have hle : s1.heap.objs.size ≤ c := by
      rw [hN]
      simp only [List.mem_cons, List.not_mem_nil, or_false] at hcm
      omega
    exact I1.fpOk hle (I1.hok.fresh hle)
  -- the new list
  refine callType_codes (s := { s1 with heap := h' }) (Q₁ := fun obj s₂ => obj = .ref h'.objs.size ∧ s₂ = { s1 with heap := h'.push { cls := .type "list", data := .seq #[] } }) PySem.F.called_list (PySem.F.typeCall_list_1 _) PySem.F.entry_list_init
    (code_list_new _ ⟨rfl, rfl⟩) fun obj s₂ hobj => ?_
  obtain ⟨rfl, rfl⟩ := hobj
  have hS : (h'.push { cls := .type "list", data := .seq #[] }).get? h'.objs.size = some { cls := .type "list", data := .seq #[] } := Heap.get?_push_size _ rfl
  have I3 : Inv X pins σ (upd H1 h'.objs.size (.lst [])) { s1 with heap := h'.push { cls := .type "list", data := .seq #[] } } := I2.lnew (its := []) (t' := s1.toks) .nil (Nat.zero_le _)
  have hH1 : H1 h'.objs.size = none := I2.hok.fresh (Nat.le_refl _)
  generalize hM : h'.objs.size = M at *
  have hMN : M = N + 5 := hsz
  have hz3 : IsZip (h'.push { cls := .type "list", data := .seq #[] }) (N + 4) (N + 2) (N + 3) .none := Heap.get?_push_of_some _ hzz
  refine ⟨⟨_, hS, rfl⟩, PySem.F.args_list_init_2 _ _, ?_⟩
  show wpAny _ _ (do let old ← Builtin.List.listItems (.ref M); Builtin.List.listUpdate (.ref M) (fun _ => #[]); letGo old.toList.reverse; Builtin.List.listExtendWith (.ref M) (.ref (N + 4)) .none) _ _ _
  refine wpAny_bind ?_
  unfold Builtin.List.listItems
  refine wpAny_bind (wpAny_seqItems hS rfl (wpAny_pure ?_))
  show wpAny _ _ (updateSeq M (fun _ => #[]) >>= fun _ => letGo (#[] : Array Value).toList.reverse >>= fun _ => Builtin.List.listExtendWith (.ref M) (.ref (N + 4)) .none) _ _ _
  refine wpAny_bind (wpAny_updateSeq hS rfl ?_)
  have hS₂ := Heap.get?_update_self (Obj.mapSeq (fun _ => (#[] : Array Value))) hS rfl
  have I4 := I3.lset (its := []) (its' := []) (ys := []) (t' := s1.toks) upd_same hS (f := fun _ => #[]) rfl .nil (Nat.zero_le _)
  refine wpAny_bind (wpAny_letGo ?_)
  have oth : ∀ c o, c ≠ M → (h'.push { cls := .type "list", data := .seq #[] }).get? c = some o → ((h'.push { cls := .type "list", data := .seq #[] }).update M (Obj.mapSeq (fun _ => (#[] : Array Value)))).get? c = some o := fun c o hb e => (Heap.get?_update_other _ _ (Ne.symm hb)).trans e
  have nez : N + 4 ≠ M := by omega
  unfold Builtin.List.listExtendWith
  have hz4 := oth _ _ nez hz3
  refine wpAny_bind (wpAny_typeOf (T := "zip") ⟨_, hz4, rfl⟩ ?_)
  have h1' : Builtin.List.listSameRef (.ref M) (.ref (N + 4)) = false := by simp [Builtin.List.listSameRef, Ne.symm nez]
  have h2' : (Value.type "zip" == Value.type "list") = false := by decide
  have h3' : (Value.type "zip" == Value.type "tuple") = false := by decide
  simp only [h1', h2', h3', Bool.or_false, Bool.false_eq_true, if_false]
  refine wpAny_bind (wpAny_pyIter_zip hz4 ?_)
  refine wpAny_bind (wpAny_holding ?_)
  unfold Builtin.List.listLengthHint
  refine wpAny_bind (wpAny_specialOf (T := "zip") ⟨_, hz4, rfl⟩ zl_no_len ?_)
  refine wpAny_bind (wpAny_specialOf (T := "zip") ⟨_, hz4, rfl⟩ zl_no_hint ?_)
  refine wpAny_pure ?_
  show wpAny _ _ (rule "list.extend.makes-room" >>= fun _ => Builtin.List.listTouch (.ref M) >>= fun _ => again (.builtin "list.extend.loop" ⟨[.ref M, .ref (N + 4), .none], []⟩)) _ _ _
  refine wpAny_bind (wpAny_rule ?_)
  refine wpAny_bind ?_
  show wpAny _ _ (updateSeq M (·.push .none) >>= fun _ => updateSeq M (·.pop)) _ _ _
  refine wpAny_bind (wpAny_updateSeq hS₂ rfl ?_)
  have hS₃ := Heap.get?_update_self (Obj.mapSeq (·.push Value.none)) hS₂ rfl
  have I5 := I4.lset (its := []) (its' := [Value.none]) (ys := [V.non]) (t' := s1.toks) upd_same hS₂ (f := (·.push .none)) rfl (.cons rfl .nil) (by show 1 ≤ sizeLine; decide)
  refine wpAny_updateSeq hS₃ rfl ?_
  have hS₄ := Heap.get?_update_self (Obj.mapSeq (·.pop)) hS₃ rfl
  have I6 := I5.lset (its := [Value.none]) (its' := []) (ys := []) (t' := s1.toks) upd_same hS₃ (f := (·.pop)) rfl .nil (Nat.zero_le _)
  have eH : upd (upd (upd (upd H1 M (.lst [])) M (.lst [])) M (.lst [.non])) M (.lst []) = upd H1 M (.lst []) := by
    funext c
    by_cases hcM : c = M
    · rw [hcM, upd_same, upd_same]
    · rw [upd_ne hcM, upd_ne hcM, upd_ne hcM, upd_ne hcM]
  rw [eH] at I6
  have oth2 : ∀ c o, c ≠ M → h'.get? c = some o → ((((h'.push { cls := .type "list", data := .seq #[] }).update M (Obj.mapSeq (fun _ => (#[] : Array Value)))).update M (Obj.mapSeq (·.push Value.none))).update M (Obj.mapSeq (·.pop))).get? c = some o := fun c o hb e =>
    (Heap.get?_update_other _ _ (Ne.symm hb)).trans ((Heap.get?_update_other _ _ (Ne.symm hb)).trans (oth c o hb (Heap.get?_push_of_some _ e)))
  have sq1 : ∀ {c l}, SqL X.K H1 c l → SqL X.K (upd H1 M (.lst [])) c l := fun e => (same_upd hH1).seq e
  have aM : a ≠ M := by rw [hMN]; exact Nat.ne_of_lt (Nat.lt_of_lt_of_le la (Nat.le_add_right _ _))
  have bM : b ≠ M := by rw [hMN]; exact Nat.ne_of_lt (Nat.lt_of_lt_of_le lb (Nat.le_add_right _ _))
  have ne4 : ∀ j : Nat, j < 5 → M ≠ N + j := fun j hj z => by
    have z : M = N + j := z
    omega
  refine wpAny_pure ⟨plainId_quiet PySem.F.plain_extend_loop _, ?_⟩
  refine zl_loop hc D (ne4 4 (by decide)) (ne4 2 (by decide)) (ne4 3 (by decide)) (ne4 0 (by decide)) (ne4 1 (by decide)) (Nat.le_trans hz (by decide)) hl (H0 := H1) (A := X.A.in1) (I1.ok.hd hc) (fun H' s' J out => ?_) xs.length 0 _ _ (Nat.sub_zero _) (Nat.zero_le _) I6 (fun c hcm => ?_) (sq1 hqx) (sq1 hqy)
    ⟨oth2 _ _ (Ne.symm (ne4 2 (by decide))) hTI, h1.at fun o e => oth2 _ o (Ne.symm (ne4 0 (by decide))) e, h2.at fun o e => oth2 _ o (Ne.symm (ne4 1 (by decide))) e, .inl ⟨oth2 _ _ (Ne.symm (ne4 4 (by decide))) hzz, _, _, oth2 _ _ (Ne.symm (ne4 3 (by decide))) hTO⟩, _, oth2 _ _ (Ne.symm (ne4 3 (by decide))) hTO⟩
    ⟨fun c o hcM e => by rw [upd_ne hcM]; exact e, [], upd_same, rfl, fun j t hj => by cases hj⟩ aM bM
  · obtain ⟨sm, ts, e1, e2, e3⟩ := out
    exact ⟨rfl, .ref M, H', J, rfl, q H' M ts (fun c o e => sm c o (ne_of_none e hH1) e) hH1 e1 e2 e3⟩
  · obtain ⟨f1, f2⟩ := hf c hcm
    refine ⟨?_, f2⟩
    have : c ≠ M := by
      intro z
      simp only [List.mem_cons, List.not_mem_nil, or_false] at hcm
      rcases hcm with h | h | h | h | h
      · exact ne4 4 (by decide) (z.symm.trans h)
      · exact ne4 2 (by decide) (z.symm.trans h)
      · exact ne4 3 (by decide) (z.symm.trans h)
      · exact ne4 0 (by decide) (z.symm.trans h)
      · exact ne4 1 (by decide) (z.symm.trans h)
    rw [upd_ne this]
    exact f1
end WB
namespace WB
open PySem PySem.Spec PyProof.Rows L2
/-! ### makers with n arguments by place, keywords ks, defaults of both kinds -/
def CalNP (P : Program) (w : World) (K : PySem.W.Frag) (mg : Str → Option Value) (base : Heap) (k : Nat) (nm : Str) (C : Addr) (ps : List Str) (n : Nat) (ks : List Str) (gV : List V → List V → List V) (sp : Sp) : Prop :=
  ∃ (f : Addr) (fd : FuncData) (g : List Value → List Value → List Value), Mk K C f ∧ FnOk P w K mg base (L2.CX P w) k f fd ps sp ∧ mg nm = some (.ref C) ∧ KBn K fd ps (n + 1) ks g gV
theorem CalNP.mono {P : Program} {w : World} {K : PySem.W.Frag} {mg : Str → Option Value} {base : Heap} {j k n : Nat} {nm : Str} {C : Addr} {ps ks : List Str} {gV : List V → List V → List V} {sp : Sp} (c : CalNP P w K mg base j nm C ps n ks gV sp) (h : j ≤ k) : CalNP P w K mg base k nm C ps n ks gV sp := by
  obtain ⟨f, fd, g, a, b, d, e⟩ := c
  exact ⟨f, fd, g, a, b.mono h, d, e⟩
section
variable {X : Cx} {k n : Nat} {C : Addr} {ps ks : List Str} {sp : Sp} {E : XK} {nm : Str} {p pos : Pos} {e : Expr} {es : List Expr} {kws : List Keyword} {t tk : TA} {gV : List V → List V → List V}
theorem pe_makeP (c : CalNP X.prog X.w X.K X.mg X.base k nm C ps n ks gV sp) (hr : Room (k + 1) X.A) (hx : Passes (L2.CX X.prog X.w) X E) (hg : Gl X nm) (ha : PA X (e :: es) t) (hkw : PK X kws tk)
    (hall : (backToKw pos (keywordEach kws X.env)).all (·.1.isSome) = true := by rfl) (hks : (backToKw pos (keywordEach kws X.env)).filterMap (·.1) = ks := by rfl) (hdb : (nm == ("__debug__" : Str)) = false := by decide)
    (he : starEach (e :: es) X.env = (false, eval e X.env) :: starEach es X.env := by rfl) (hpl : ((backTo pos (starEach (e :: es) X.env)).any (·.1) || (backToKw pos (keywordEach kws X.env)).any (·.1.isNone)) = false := by rfl) :
    PE X (.Call (.Name nm p) (e :: es) kws pos) (tMakeK C n ks.length sp gV E t tk) := by
  obtain ⟨f, fd, g, a, b, d, hb⟩ := c
  exact pe_makeK a b hr hg d hb hx ha hkw hall hks hdb he hpl
theorem pe_makePF (c : CalNP X.prog X.w X.K X.mg X.base k nm C ps n ks gV sp) (hr : Room (k + 1) X.A) (hg : Gl X nm) (ha : PA X (e :: es) t) (hkw : PK X kws tk)
    (hall : (backToKw pos (keywordEach kws X.env)).all (·.1.isSome) = true := by rfl) (hks : (backToKw pos (keywordEach kws X.env)).filterMap (·.1) = ks := by rfl) (hdb : (nm == ("__debug__" : Str)) = false := by decide)
    (he : starEach (e :: es) X.env = (false, eval e X.env) :: starEach es X.env := by rfl) (hpl : ((backTo pos (starEach (e :: es) X.env)).any (·.1) || (backToKw pos (keywordEach kws X.env)).any (·.1.isNone)) = false := by rfl) :
    PE X (.Call (.Name nm p) (e :: es) kws pos) (tMakeK C n ks.length sp gV E0 t tk) := pe_makeP c hr passL hg ha hkw hall hks hdb he hpl
end
section
variable {K : PySem.W.Frag} {x qual : Str} {params : Arguments} {body : List Stmt} {scope : Scope} {dvs : List V} {kws : List (Str × V)} {f : Addr} {fd : FuncData} {ps : List Str}
theorem kbn_pickD (F : FunD K x qual params body scope dvs kws f fd) (n j : Nat) (ks : List Str) (ms : List (Str × V)) (is : List Nat) (hd : dvs ≠ []) (hk : kws ≠ []) (hms : ∀ q ∈ ms, q ∈ kws)
    (h : ∀ (T D : Addr) (doc pm : Value) (an : Option Addr) (cdv ct : Value) (us its mv ws : List Value), us.length = n → its.length = dvs.length → mv.length = ms.length → ws.length = ks.length →
      ∃ k, bindArgs (PySem.W.fnOf x qual params body scope (.ref T) (.ref D) doc pm an cdv ct) ⟨us, ks.zip ws⟩ = seqItems? (.ref T) >>= k ∧ KwChain D ((ms.map (·.1)).zip mv) (k (some its.toArray)) (ps.zip (us ++ its.drop j ++ pickL (ws ++ mv) is))) :
    ∃ g, KBn K fd ps n ks g (fun vs zs => vs ++ dvs.drop j ++ pickL (zs ++ ms.map (·.2)) is) := by
  obtain ⟨its, mv, hb⟩ := F.kbinds (ps := ps) n ks ms (fun {α} us its mv ws => us ++ its.drop j ++ pickL (ws ++ mv) is) hd hk hms (fun r1 r2 r3 r4 => (r1.append (r2.drop j)).append (vals_pick (r4.append r3) is)) h
  exact ⟨_, hb⟩
end
end WB
namespace WB
open PySem PySem.Spec PyProof.Rows L2
/-! ### sorted of a list of numbers -/
def rSortL (K : PySem.W.Frag) : List V → Hp → VK → Prop := fun vs H Q => ∃ (a : Addr) (ns : List Int), vs = [.ref a] ∧ SqL K H a (ns.map V.int) ∧ ∀ (p : Addr) (ms : List Int), H p = none → ms.Perm ns → ms.Pairwise (· ≤ ·) → Q (.ref p) (upd H p (.lst (ms.map V.int)))
theorem cr_sortedL {X : Cx} : CallR X (.builtin "sorted") (rSortL X.K) := by
  intro pins s σ H vs us Q I r h
  obtain ⟨a, ns, rfl, hs, q⟩ := h
  obtain ⟨its, rv, hl, hz⟩ := I.list hs
  rw [Vals.ref1 r]
  have hI : IntsAre its ns := Vals.ints rv
  have hlen := IntsAre.length hI
  rw [List.length_map] at hz
  refine sorted_intsAny (vs := its) hl.isList hI (by omega) fun out ms hI' hp hw => ?_
  obtain ⟨e, he⟩ := sortedAll_at s.heap its out
  have hn : H (s.heap.objs.size + 1) = none := I.hok.fresh (Nat.le_succ _)
  have hml : ms.length = ns.length := hp.length_eq
  refine ⟨.ref (s.heap.objs.size + 1), _, I.laid (h' := sortedAll s.heap its out) (t' := s.toks) (o := .lst (ms.map V.int)) (fun b u hb => sortedAll_old hb) (Nat.le_succ _) ⟨by rw [List.length_map]; omega, out.toList, e, vals_ints hI', he⟩, rfl, q _ ms hn hp hw⟩
theorem cr_sortedLK {X : Cx} (K : PySem.W.Frag) (h : X.K = K) : CallR X (.builtin "sorted") (rSortL K) := by subst h; exact cr_sortedL
end WB
namespace WB
open PySem PySem.Spec PyProof.Rows L2
/-! ### groups put together; a test by its outcome -/
theorem Hw.gapp {α : Type} {K : PySem.W.Frag} {L : List (Addr × List L2.V)} {T0 : List (Addr × Str)} {Ts : List Th} {f : α → Th} {Y Z : List α} {H : Hp} (h : Hw K L T0 (Z.map f ++ (tG (Y.map f) :: Ts)) H) : Hw K L T0 (tG ((Y ++ Z).map f) :: Ts) H := by
  have h1 : Hw K L T0 (tG (Y.map f) :: (Z.map f ++ Ts)) H := ⟨h.hs.perm List.perm_middle, h.tf⟩
  have h2 := h1.ungrp
  rw [← List.append_assoc, ← List.map_append] at h2
  exact h2.grp
theorem Hw.gappI {α : Type} {K : PySem.W.Frag} {L : List (Addr × List L2.V)} {T0 : List (Addr × Str)} {Ts : List Th} {f : α → Th} {Y Z : List α} {H : Hp} (i : Nat) (h : Hw K L T0 (Z.map f ++ Ts) H) (hi : Ts[i]? = some (tG (Y.map f))) : Hw K L T0 (tG ((Y ++ Z).map f) :: Ts.eraseIdx i) H :=
  Hw.gapp ⟨h.hs.perm (List.Perm.append_left _ (perm_at hi).symm), h.tf⟩
theorem Hw.mid {K : PySem.W.Frag} {L : List (Addr × List L2.V)} {T0 : List (Addr × Str)} {As Bs : List Th} {T : Th} {H : Hp} (h : Hw K L T0 (T :: (As ++ Bs)) H) : Hw K L T0 (As ++ T :: Bs) H := ⟨h.hs.perm List.perm_middle.symm, h.tf⟩
theorem Hw.knows {K : PySem.W.Frag} {L L' : List (Addr × List L2.V)} {T0 : List (Addr × Str)} {Ts : List Th} {H : Hp} (h : Hw K L T0 Ts H) (t : TF K L' H) : Hw K (L' ++ L) T0 Ts H := ⟨h.hs, fun p hp => (List.mem_append.mp hp).elim (t p) (h.tf p)⟩
theorem ifP {c : TT} {t e : TS} {D : Ends} {σ : L2.St} {H : Hp} (b : Bool) (hc : ∀ Q : Bool → Hp → Prop, Q b H → c σ H Q) (ht : b = true → t D σ H) (he : b = false → e D σ H) : tIfS c t e D σ H := by
  refine hc _ ?_
  cases b with
  | true => exact ht rfl
  | false => exact he rfl
theorem dp_ii {K : PySem.W.Frag} {H : Hp} {z y : Int} (e : z = y) : Dp K H (.int z) (.int y) := by rw [e]; exact .int y
theorem dn_i (z : Int) (n : Nat) : Dn (n + 1) (.int z) := .inr (.inl ⟨z, rfl⟩)
theorem shaped_i (z : Int) : SeqAt.shaped (.int z) = true := rfl
end WB
namespace WB
open PySem PySem.Spec PyProof.Rows L2
/-! ### laws in which a second def makes lambdas too: the tables of both are empty at the start -/
/-- walk_ofOwn with the table of the def named m known beside the law's own -/
theorem walk_own2 {l : PySem.W.OpenLaw} {n k : Nat} {q : Program} {loose : List Str} {XP : (Str → Option Value) → Heap → Prop} {YP : World → Heap → Prop} {d : DefRec} {K : Params → PySem.W.Frag} {CX : World → CXT} {x : Str} (m : Str)
    (hn : l.most = some n) (hn2 : n ≤ sizeLine) (hdf : d.params.defaults = []) (hr : Room k callerA) (hm1 : ((recsOf q).any fun e => e.name == d.name) = true) (hm2 : ((recsOf q).any fun e => e.name == m) = true) (hY : ∀ (w : World) (h : Heap), YP w h → (K w.params).In h)
    (F : ∀ (w : World) (mg : Str → Option Value) (fa : Addr) (h : Heap), YP w h → (K w.params).In h → h.Ns mainGlobals mg → mg d.name = some (.ref fa) → LamX.OwnTab (K w.params) fa h → (∀ fb : Addr, mg m = some (.ref fb) → LamX.OwnTab (K w.params) fb h) → LamX.LawAtS l w (K w.params) (CX w) k n x mg fa h)
    (hCX : ∀ (w : World) (H : Hp) (s : Shared) (e : Value) (s' : Shared), CX w [] H s (fun _ _ _ => False) e s' → False) :
    PySem.W.WalkO q loose XP YP l.row.toRowW d [] (fun f vs => PySem.call f vs) := by
  refine Att.attach_callB hn hdf fun w s₀ s₁ mg mb fa o pm cd doc a vs ns G Y ho hd hcd hmg hobj hints hlen hbits hg => ?_
  have KX := hY w _ Y
  have tab : ∀ y : Str, ((recsOf q).any fun e => e.name == y) = true → ∀ fb : Addr, mg y = some (.ref fb) → LamX.OwnTab (K w.params) fb s₁.heap := by
    intro y hy fb hfb c P o1 fd1 e dd vs1 sl k1 k2 k3 k4 k5
    obtain ⟨r, hr1, hr2⟩ := List.any_eq_true.mp hy
    obtain ⟨a', o', fd', c', P', h1, h2, h3, h4, _, ⟨oc, vc, e1, _, e3, e4⟩, hP⟩ := G.T.tab r hr1
    obtain rfl : fb = a' := by
      have := (beq_iff_eq.mp hr2) ▸ h1
      exact Value.ref.inj (Option.some.inj (hfb.symm.trans this))
    obtain rfl : o1 = o' := Option.some.inj ((KX _ _ k1).symm.trans h2)
    obtain rfl : fd1 = fd' := by
      have := k2.symm.trans h3
      injection this
    obtain rfl : c = c' := Value.ref.inj (k3.symm.trans h4)
    obtain rfl := Option.some.inj ((KX _ _ k4).symm.trans e1)
    cases e3
    obtain rfl : P = P' := Value.ref.inj (Option.some.inj (k5.symm.trans e4))
    exact hP
  obtain ⟨fd, cs, sp, hT, nT, C, hb, hsp, hF⟩ := F w mg fa _ Y KX G.T.g hmg (tab _ hm1 _ hmg) (fun fb => tab _ hm2 fb)
  exact LamX.law_callTs KX G.T.g G.T.b G.T.builtins G.T.nolimit hg hT nT C G.T.bmain hobj hints (Nat.le_trans hlen hn2) hr hF hb (fun H hH hS => hsp H a ns hlen hbits hH hS) fun H e s' => hCX w H s₁ e s'

/-- the promise of a law with the tables of two defs -/
def spLaw2 (K : PySem.W.Frag) (tP tQ : Addr) : Sp := fun vs H Q _ => ∃ (a : Addr) (ns : List Int), vs = [.ref a] ∧ SqL K H a (ns.map V.int) ∧ H tP = some (.tbl #[]) ∧ H tQ = some (.tbl #[]) ∧ ∀ H', Q (.bl true) H'
end WB
namespace WB
open PySem PySem.Spec PyProof.Rows L2
/-! ### the names of a def at its start -/
theorem start1 (x : Str) (N : List Str) (v : L2.V) : L2.start (x :: N) [v] = some v :: N.map fun _ => none := by
  show some v :: List.replicate (N.length + 1 - 1) none = _
  rw [Nat.add_sub_cancel]
  congr 1
  induction N with
  | nil => rfl
  | cons y N ih => exact congrArg (none :: ·) ih
section
variable {K : PySem.W.Frag} {L : List (Addr × List L2.V)} {T0 : List (Addr × Str)} {Ts As : List Th} {T N : Th} {H H' : Hp}
/-- an object of several parts changed, something new told -/
theorem Hw.upG (h : Hw K L T0 Ts H) (i : Nat) (hi : Ts[i]? = some T) (u : Up T (N :: As) H H') : Hw K L T0 (tG As :: N :: Ts.eraseIdx i) H' := (Hw.mid (As := As) (Bs := Ts.eraseIdx i) (h.up i hi u)).grp
theorem Hw.upG0 (h : Hw K L T0 Ts H) (i : Nat) (hi : Ts[i]? = some T) (u : Up T As H H') : Hw K L T0 (tG As :: Ts.eraseIdx i) H' := (h.up i hi u).grp
theorem Hw.upNG (h : Hw K L T0 Ts H) (u : Up (tG []) As H H') : Hw K L T0 (tG As :: Ts) H' := (h.upN u).grp
end
/-! ### lambdas of one parameter with a default that is a whole number -/
abbrev dlamO (X : Cx) (params : Arguments) (body : Expr) (scope : Scope) (tA : Addr) (doc pm : Value) (c' : Addr) (ctv : Value) : Obj := PySem.W.kdv_obj "<lambda>" (X.env.qual ++ "<lambda>") params (.expr body) scope (cloFrom X.env.cells scope.names []) (.ref tA) doc pm c' ctv
/-- one parameter, not known outside; captured names and globals -/
structure LamD (N : List Str) (sc scope : Scope) : Prop where
  kind : scope.kind = .function
  co : scope.isCoroutine = false
  gen : scope.isGenerator = false
  own : ∀ y ∈ scope.names, y.2 ≠ .cell ∧ (y.2 = .local → y.1 ∉ N)
  free : ∀ y ∈ scope.names, y.2 = .free → sc.names.lookup y.1 = some .cell ∨ sc.names.lookup y.1 = some .free
def lamDB (N : List Str) (sc scope : Scope) : Bool :=
  decide (scope.kind = .function) && !scope.isCoroutine && !scope.isGenerator && scope.names.all fun y => !decide (y.2 = .cell) && (!decide (y.2 = .local) || !decide (y.1 ∈ N)) && (!decide (y.2 = .free) || decide (sc.names.lookup y.1 = some .cell) || decide (sc.names.lookup y.1 = some .free))
theorem lamD_by {N : List Str} {sc scope : Scope} (h : lamDB N sc scope = true) : LamD N sc scope := by
  unfold lamDB at h
  simp only [Bool.and_eq_true, Bool.or_eq_true, Bool.not_eq_true', decide_eq_true_eq, decide_eq_false_iff_not, List.all_eq_true] at h
  obtain ⟨⟨⟨h1, h2⟩, h3⟩, h4⟩ := h
  refine ⟨h1, h2, h3, fun y hy => ⟨(h4 y hy).1.1, fun e => ?_⟩, fun y hy e => ?_⟩
  · rcases (h4 y hy).1.2 with z | z
    · exact absurd e z
    · exact z
  · rcases (h4 y hy).2 with (z | z) | z
    · exact absurd e z
    · exact .inl z
    · exact .inr z
theorem LamD.has {X : Cx} {scope : Scope} (L : LamD X.N X.env.scope scope) (ok : X.Ok) : ∀ y ∈ scope.names, y.2 = .free → ∃ c, X.env.cells.lookup y.1 = some c := fun y hy e => by
  rcases L.free y hy e with k | k
  · exact ok.has _ (.inl k)
  · exact ok.has _ (.inr k)
section
variable {X : Cx} {pins : List (Addr × Obj)} {σ : L2.St} {H HZ : Hp} {s s1 : Shared}
theorem notFr (J : Inv X pins σ H s) {b : Addr} (hb : s.heap.objs.size ≤ b) : b ∉ frs X.stack := fun z => by
  rcases List.mem_cons.mp (J.stkSub _ z) with q | q
  · have hl := J.lt
    rw [← q] at hl
    exact Nat.lt_irrefl _ (Nat.lt_of_lt_of_le hl hb)
  · exact J.nofs hb q
/-- the tail of the making, the tuple of the defaults there -/
theorem lam_tail3 {T : List (Addr × Str)} {c P tA : Addr} {u : Value} {params : Arguments} {body : Expr} {scope : Scope} {pos : Pos} {E : Value → Shared → Prop} {Q : Value → Shared → Prop} (J : Inv X pins σ H s) (TB : LamX.TabB X.base X.mg c P) (ec : X.env.code = .ref c)
    (mm : (P, X.env.qual ++ "<lambda>") ∈ T) (mu : ∀ p ∈ T, p.1 = P → p.2 = X.env.qual ++ "<lambda>") (hT : LamX.Tabs T H) (hfree : ∀ y ∈ scope.names, y.2 = .free → ∃ c, X.env.cells.lookup y.1 = some c) (eA : s.heap.get? tA = some (PySem.W.kdv_tup [u])) (nA : H tA = none) (fA : tA ∉ frs X.stack)
    (h : ∀ (f c' : Addr) (doc pm ctv : Value) (H1 : Hp) (s' : Shared), Inv X pins σ H1 s' → LamX.ExtN H H1 → LamX.Tabs T H1 → s'.heap.get? tA = some (PySem.W.kdv_tup [u]) →
      s'.heap.get? f = some (dlamO X params body scope tA doc pm c' ctv) → H1 f = none → H1 tA = none → f ∉ frs X.stack → H1 c' = some (LamX.CodeO c' (X.env.qual ++ "<lambda>")) → Q (.ref f) s') :
    wpAny (model X.prog X.w) X.A (PySem.makeTail "<lambda>" (X.env.qual ++ "<lambda>") params (.expr body) scope X.env (.ref tA) .none none pos pos.line) Q E s := by
  obtain ⟨ts, tP, t3, tall⟩ := hT _ mm
  have gP : s.heap.get? P = some { cls := .none, data := .fields ts } := J.hok P _ tP
  have bP : s.heap.BuiltinsAt X.mg P := TB.bm.keeps J.bk
  have neA : tA ≠ P := fun z => by
    rw [z, tP] at nA
    cases nA
  cases am : codeAmong pos ts.toList with
  | some cv =>
    obtain ⟨c', ecv, hco⟩ := tall pos cv am
    subst ecv
    refine PySem.W.kdv_makeTailHit (mg := X.mg) (c := c) (P := P) (ps := ts) (closure_ok hfree) J.ok.glob (J.mod.glob.keeps J.bk) ec (TB.code.keeps J.bk) gP t3 am bP fun ctv doc h' tk kx sz => ?_
    have J1 : Inv X pins σ H { s with heap := h'.push (dlamO X params body scope tA doc ((X.mg "__name__").getD .none) c' ctv), toks := tk } := J.kept fun b o e => Heap.get?_push_of_some _ (kx b o e)
    exact h h'.objs.size c' doc _ ctv H _ J1 (LamX.ExtN.refl H) hT (Heap.get?_push_of_some _ (kx _ _ eA)) (Heap.get?_push_size _ rfl) (J.hok.fresh sz) nA (notFr J sz) hco
  | none =>
    refine PySem.W.kdv_makeTail (mg := X.mg) (c := c) (P := P) (ps := ts) (closure_ok hfree) J.ok.glob (J.mod.glob.keeps J.bk) ec (TB.code.keeps J.bk) gP t3 am TB.gP bP fun c' ctv doc h' tk hx ge lt rc gtb => ?_
    obtain ⟨c2, oc, vs, t, ec2, goc, hd, hv⟩ := rc
    cases ec2
    have sz : s.heap.objs.size ≤ h'.objs.size := Nat.le_trans ge (Nat.le_of_lt lt)
    have nC : H c' = none := J.hok.fresh ge
    have J1 := LamX.inv_table (t' := tk) (more := #[rawInt pos.line, rawInt pos.col, .ref c']) (h' := h'.push (dlamO X params body scope tA doc ((X.mg "__name__").getD .none) c' ctv)) J tP
      (fun b o hb e => Heap.get?_push_of_some _ (hx b o hb e)) (Heap.get?_push_of_some _ gtb) ge ⟨oc, vs, t, Heap.get?_push_of_some _ goc, hd, hv⟩
    have eN : LamX.ExtN H (upd (upd H P (.tbl (ts ++ #[rawInt pos.line, rawInt pos.col, .ref c']))) c' (LamX.CodeO c' (X.env.qual ++ "<lambda>"))) := fun b o e n => by
      rw [upd_ne (ne_of_none e nC), upd_ne (fun z => n ts (Option.some.inj (e.symm.trans (by rw [z]; exact tP))))]
      exact e
    have tl : (ts ++ #[rawInt pos.line, rawInt pos.col, .ref c']).toList = ts.toList ++ [rawInt pos.line, rawInt pos.col, .ref c'] := by simp
    have nf : ∀ b, H b = none → b ≠ c' → b ≠ P → upd (upd H P (.tbl (ts ++ #[rawInt pos.line, rawInt pos.col, .ref c']))) c' (LamX.CodeO c' (X.env.qual ++ "<lambda>")) b = none := fun b e n1 n2 => by
      rw [upd_ne n1, upd_ne n2]
      exact e
    refine h h'.objs.size c' doc _ ctv _ _ J1 eN (fun p hp => ?_) (Heap.get?_push_of_some _ (hx _ _ neA eA)) (Heap.get?_push_size _ rfl) (nf _ (J.hok.fresh sz) (Nat.ne_of_gt lt) (Nat.ne_of_gt (Nat.lt_of_lt_of_le (Heap.lt_size gP) sz))) (nf _ nA (fun z => ?_) neA) (notFr J sz) upd_same
    · by_cases y : p.1 = P
      · rw [mu p hp y, y]
        refine ⟨_, by rw [upd_ne (ne_of_none tP nC), upd_same], by rw [tl]; exact PySem.TriplesOk_snoc _ _ _ _ t3, fun p' cv hcv => ?_⟩
        rw [tl] at hcv
        rcases LamX.among_app _ t3 hcv with z | z
        · obtain ⟨c0, q1, q2⟩ := tall p' cv z
          exact ⟨c0, q1, eN _ _ q2 LamX.codeO_ne⟩
        · exact ⟨c', z, upd_same⟩
      · obtain ⟨ts', a1, a2, a3⟩ := hT p hp
        refine ⟨ts', by rw [upd_ne (ne_of_none a1 nC), upd_ne y]; exact a1, a2, fun p' cv hcv => ?_⟩
        obtain ⟨c0, q1, q2⟩ := a3 p' cv hcv
        exact ⟨c0, q1, eN _ _ q2 LamX.codeO_ne⟩
    · have hl := Heap.lt_size eA
      rw [z] at hl
      exact absurd ge (Nat.not_le.mpr hl)
theorem lam_make3 {T : List (Addr × Str)} {c P : Addr} {params : Arguments} {body de : Expr} {scope : Scope} {pos : Pos} {n : Int} {Q : Value → Shared → Prop} (I : Inv X pins σ H s) (TB : LamX.TabB X.base X.mg c P) (ec : X.env.code = .ref c)
    (mm : (P, X.env.qual ++ "<lambda>") ∈ T) (mu : ∀ p ∈ T, p.1 = P → p.2 = X.env.qual ++ "<lambda>") (hT : LamX.Tabs T H) (hdf : params.defaults = [de]) (hkd : params.kw_defaults = []) (hde : PE X de (fun _ H Q => Q (.int n) H)) (hfree : ∀ y ∈ scope.names, y.2 = .free → ∃ c, X.env.cells.lookup y.1 = some c)
    (h : ∀ (f c' tA : Addr) (u doc pm ctv : Value) (H1 : Hp) (s' : Shared), Inv X pins σ H1 s' → LamX.ExtN H H1 → LamX.Tabs T H1 → s'.heap.get? tA = some (PySem.W.kdv_tup [u]) →
      s'.heap.get? f = some (dlamO X params body scope tA doc pm c' ctv) → H1 f = none → H1 tA = none → f ∉ frs X.stack → tA ∉ frs X.stack → H1 c' = some (LamX.CodeO c' (X.env.qual ++ "<lambda>")) → Q (.ref f) s') :
    wpAny (model X.prog X.w) X.A (eval (.Lambda params body scope pos) X.env) Q X.xe s := by
  refine PySem.W.kdv_lam (by rw [hdf]; rfl) hkd ?_
  rw [hdf]
  refine PySem.W.kdv_all1 (thn (hde.run pins s σ H (fun v H' => v = .int n ∧ H' = H) I ⟨rfl, rfl⟩) fun u s1 x => ?_)
  obtain ⟨w, H0, I1, r1, e1, e2⟩ := x
  subst e2
  refine PySem.W.kdv_all0 ?_
  rw [PySem.makeFunction_eq]
  simp only [List.zip_nil_right, List.filterMap_nil, List.isEmpty_nil, if_true, pure_bind, List.isEmpty_cons, Bool.false_eq_true, if_false]
  refine wpAny_bind (wpAny_newTextTuple ?_)
  have J : Inv X pins σ H0 { s1 with heap := s1.heap.push (PySem.W.kdv_tup [u]) } := I1.kept (t' := s1.toks) fun b o e => Heap.get?_push_of_some _ e
  have nA : H0 s1.heap.objs.size = none := I1.hok.fresh (Nat.le_refl _)
  have fA := notFr I1 (Nat.le_refl _)
  exact lam_tail3 (tA := s1.heap.objs.size) J TB ec mm mu hT hfree (Heap.get?_push_size _ rfl) nA fA fun f c' doc pm ctv H1 s' J1 eN T1 gA gf n1 n2 n3 hc => h f c' _ u doc pm ctv H1 s' J1 eN T1 gA gf n1 n2 n3 fA hc
theorem lam_start3 {A : Around} {outer : List Env} {E : XK} {scope : Scope} {f c' : Addr} {h₁ : Heap} {tk : Nat} {m : Str → Option Value} (I : Inv X pins σ H s) (L : LamD X.N X.env.scope scope) (e0 : Env0 X.prog X.w X.K X.mg X.base A outer s1 HZ) (ha : A.handled = none)
    (un : Un (frs X.stack) [] H HZ s.heap s1.heap) (ns : h₁.Ns s1.heap.objs.size m) (kx : ∀ b o, s1.heap.get? b = some o → h₁.get? b = some o) :
    Inv (LamX.lamCx X A outer s1 HZ E scope f c') [] σ HZ { s1 with heap := h₁, toks := tk } := by
  have mem : ∀ {y c}, (cloFrom X.env.cells scope.names []).lookup y = some c → X.env.cells.lookup y = some c := fun {y c} e => by
    rcases cloFrom_mem (PySem.mem_of_lookup e) with z | ⟨q1, q2⟩
    · cases z
    · obtain ⟨d, hd⟩ := L.has I.ok _ q1 rfl
      have hd : X.env.cells.lookup y = some d := hd
      have ed : c = d := by
        rw [q2, hd] <;> rfl
      rw [ed]
      exact hd
  have fnd : ∀ {y}, scope.names.lookup y = some .free → ∃ c, (cloFrom X.env.cells scope.names []).lookup y = some c := fun {y} q => by
    have z : (y, NameKind.free) ∈ scope.names := PySem.mem_of_lookup q
    exact mem_lookup (cloFrom_has (cells := X.env.cells) (acc := []) z)
  have cK : ∀ {c : Addr} {v : Option Value}, H c = none → s.heap.IsCell c v → h₁.IsCell c v := fun {c v} n ⟨o, ho, hd⟩ => by
    obtain ⟨sl, q⟩ := un.any ho n (by simp)
    exact ⟨_, kx _ _ q, hd⟩
  have no0 : ∀ b : Addr, b ∉ (LamX.lamCx X A outer s1 HZ E scope f c').ex := fun b z => absurd (show b ∈ ([] : List Addr) from z) (by simp)
  refine ⟨⟨e0.mod, L.kind, rfl, rfl, Nat.le_refl _, fun y z c e1 e2 => I.ok.inj y z c (mem e1) (mem e2), fun y hy => ?_, fun y c z _ => ?_, fun _ => ha, Around.frames_deeper e0.frames, .inr ⟨rfl, rfl⟩, fun b z => absurd z (no0 b), e0.bs, e0.bsz, fun b _ _ => no0 b,
      fun b z => absurd z (no0 b), e0.funs, e0.frf⟩,
    rfl, e0.bare, Un.kept kx, ⟨_, ns, fun i y v e1 e2 e3 => ?_⟩, fun y c e => ?_, e0.hok.fresh (Nat.le_refl _), fun y c e => ?_, fun q hq => absurd (show q ∈ ([] : List (Addr × Obj)) ++ [] from hq) (by simp), e0.hok.kept kx, I.len⟩
  · have hy : scope.names.lookup y = some .cell ∨ scope.names.lookup y = some .free := hy
    rcases hy with hy | hy
    · exact absurd rfl (L.own _ (PySem.mem_of_lookup hy)).1
    · exact fnd hy
  · have z : false = true := z
    cases z
  · have e3 : Vis scope y := e3
    rcases e3 with k | k | k
    · exact absurd (List.mem_of_getElem? e1) ((L.own _ (PySem.mem_of_lookup k)).2 rfl)
    · exact absurd rfl (L.own _ (PySem.mem_of_lookup k)).1
    · obtain ⟨m, hn, hl⟩ := I.loc
      have vis : Vis X.env.scope y := (L.free _ (PySem.mem_of_lookup k) rfl).elim (fun k => .inr (.inl k)) (fun k => .inr (.inr k))
      obtain ⟨w', r, q⟩ := hl i y v e1 e2 vis
      obtain ⟨c2, z2⟩ := fnd k
      refine ⟨w', r, .inr ⟨.inr k, c2, z2, ?_⟩⟩
      have z1 := mem z2
      rcases q with ⟨k', _⟩ | ⟨_, c3, e', z⟩
      · have k' : X.env.scope.names.lookup y = some .local := k'
        rcases L.free _ (PySem.mem_of_lookup k) rfl with k2 | k2 <;> rw [show X.env.scope.names.lookup y = _ from k2] at k' <;> cases k'
      · rw [z1] at e'
        cases e'
        exact cK (I.freeC y _ z1) z
  · obtain ⟨w', z⟩ := I.cell y c (mem e)
    exact ⟨w', cK (I.freeC y c (mem e)) z⟩
  · obtain ⟨v, o, ho, hd⟩ := I.cell y c (mem e)
    exact un.free c o ho (I.freeC y c (mem e)) (by simp)
/-- x() in the def that got such a lambda -/
theorem pe_act3 {CXg : CXT} {Eg : XK} {Ng : List Str} {qg : Str} {sg : Scope} {g f c' tA : Addr} {cdg pm doc ctv u : Value} {params : Arguments} {body : Expr} {scope : Scope} {k i : Nat} {a b : Str} {pn : List (Addr × Obj)} {xe : Value → Shared → Prop} {W : WX} {E : XK} {tb : TE} {p1 p2 : Pos}
    (I : Inv X pins σ H s) (L : LamD X.N X.env.scope scope) (gf : s.heap.get? f = some (dlamO X params body scope tA doc pm c' ctv)) (nf : H f = none) (ff : f ∉ frs X.stack) (gA : s.heap.get? tA = some (PySem.W.kdv_tup [u])) (nA : H tA = none) (fA : tA ∉ frs X.stack)
    (hbind : ∀ (s : Shared) (q : Str) (cl : List (Str × Addr)) (tA : Addr) (doc pm cv ctv u : Value), s.heap.get? tA = some (PySem.W.kdv_tup [u]) → BindsTo s (PySem.W.kdv_fn "<lambda>" q params (.expr body) scope cl (.ref tA) doc pm cv ctv) ⟨[], []⟩ [(b, u)]) (hb : scope.names.lookup b = some .local)
    (tk : Takes ((cxOf CXg X.prog X.w X.K X.mg X.base Ng qg sg g cdg X.A X.stack s H Eg).tr pn xe) W) (hW : ∀ cls d σ' H', E cls d H' → W cls d σ' H') (hr : Room (k + 1) (X.A.deeper (envOfC qg sg s.heap.objs.size g cdg)))
    (hbody : ∀ (A : Around) (outer : List Env) (s : Shared) (H : Hp), Room k (A.deeper (LamX.lamEnv X scope s.heap.objs.size f c')) → PE (LamX.lamCx X A outer s H E scope f c') body tb)
    (hN : Ng[i]? = some a) (hv : Vis sg a) (hd : (a == ("__debug__" : Str)) = false := by decide) (hcd : (a == ("__classdict__" : Str)) = false := by decide) :
    PE ((cxOf CXg X.prog X.w X.K X.mg X.base Ng qg sg g cdg X.A X.stack s H Eg).tr pn xe) (.Call (.Name a p1) [] [] p2)
      (fun σZ HZ Q => σZ[i]? = some (some (.ref f)) ∧ HZ c' = some (LamX.CodeO c' (X.env.qual ++ "<lambda>")) ∧ tb σ HZ Q) := by
  refine ⟨fun pinsZ sZ σZ HZ Q IZ h => ?_⟩
  obtain ⟨e0, hco, ht⟩ := h
  refine wpAny_Call_Name_kw (thn ((pe_var (pos := p1) (i := i) hN hv hd hcd).run pinsZ sZ σZ HZ (fun v H1 => v = .ref f ∧ H1 = HZ) IZ ⟨.ref f, e0, rfl, rfl⟩) fun w s1 ⟨v, H1, I1, r1, q1⟩ => ?_)
  obtain ⟨ev, eH⟩ := q1
  subst ev
  rw [eH] at I1
  obtain rfl : w = Value.ref f := r1
  have none0 : ∀ b : Addr, b ∉ ([] : List Addr) := fun b z => nomatch z
  have of1 : s1.heap.get? f = some (dlamO X params body scope tA doc pm c' ctv) := I1.base.keep f _ gf nf ff (none0 f)
  have oA1 : s1.heap.get? tA = some (PySem.W.kdv_tup [u]) := I1.base.keep tA _ gA nA fA (none0 tA)
  refine PySem.W.callWith_F0 ⟨_, _, _, _, of1⟩ ?_
  have un : Un (frs X.stack) [] H HZ s.heap s1.heap := I1.base
  obtain ⟨⟨oc, vs, t, goc, hdc, hvc⟩, _, _⟩ := I1.hok c' _ hco
  have rc : codeAny (model X.prog X.w) (X.A.deeper (envOfC qg sg s.heap.objs.size g cdg)) (.call (.ref f) ⟨[], []⟩) (CR (L2.CX X.prog X.w) (envOfC qg sg s.heap.objs.size g cdg :: X.stack) X.prog X.w HZ s1 Q E) s1 := by
    refine PySem.W.kla_callFunE hr.depth of1 rfl L.co L.gen rfl ⟨c', oc, vs, t, rfl, goc, hdc, hvc⟩ (hbind s1 _ _ _ _ _ _ _ _ oA1 _ _ _ _ ?_)
    refine wpAny_newFunctionEnv (fun y hy => (L.own y hy).1) (fun y hy => by rw [List.mem_singleton.mp hy]; exact hb) (fun h₁ ns hsb => ⟨I1.nolimit.fresh _ hsb, ?_⟩) L.kind
    show codeAny _ _ (.expr body (LamX.lamEnv X scope s1.heap.objs.size f c')) _ _
    have kx : ∀ b o, s1.heap.get? b = some o → h₁.get? b = some o := fun b o e => hsb.extBut b o (Nat.ne_of_lt (Heap.lt_size e)) (Heap.get?_push_of_some _ e)
    have J : Inv (LamX.lamCx X (X.A.deeper (envOfC qg sg s.heap.objs.size g cdg)) (envOfC qg sg s.heap.objs.size g cdg :: X.stack) s1 HZ E scope f c') [] σ HZ { s1 with heap := h₁, toks := s1.toks + ([(b, u)] : List (Str × Value)).length } :=
      lam_start3 I L I1.env0 hr.hd un ns kx
    refine PySem.W.kla_codeExpr (wpAny_mono ((hbody _ _ s1 HZ (hr.deeper _)).run [] _ _ HZ Q J ht) (fun v s' hq => ?_) fun e s' hq => hq)
    obtain ⟨w', H', J', rv, q⟩ := hq
    exact ⟨w', H', J'.os, J'.bare, J'.base, J'.hok, rv, q⟩
  have hx : Passes (L2.CX X.prog X.w) ((cxOf CXg X.prog X.w X.K X.mg X.base Ng qg sg g cdg X.A X.stack s H Eg).tr pn xe) E := passes_call tk hW
  refine wpAny_call (codeAny_mono rc fun r s' hq => ?_)
  cases r with
  | error e => exact hx pinsZ σZ HZ s1 e s' I1 hq
  | ok fl =>
    cases fl with
    | ret u => exact I1.after hq
    | next => exact False.elim hq
    | brk => exact False.elim hq
    | cont => exact False.elim hq
end
section
variable {X : Cx} {TT : (XK → Hp → VK → Prop) → Hp → VK → Prop} {x a b : Str} {g f c' tA : Addr} {k : Nat} {pg : Arguments} {bg : List Stmt} {sg : Scope} {dV kV doc pm cdv ct oc : Value} {doc' pm' ctv u : Value} {an od : Option Addr} {osl : Array (Option Value)} {Ng : List Str}
  {params : Arguments} {body ea : Expr} {scope : Scope} {t : XK → TE} {p pos : Pos} {j : Nat}
/-- g(x), where x is a lambda with a default that was kept -/
theorem pe_actname3 {q : Str} (hq : X.env.qual ++ "<lambda>" = q) (hpin : (f, dlamO X params body scope tA doc' pm' c' ctv) ∈ X.pn) (hpA : (tA, PySem.W.kdv_tup [u]) ∈ X.pn) (hfr : f ∉ frs X.stack) (hfA : tA ∉ frs X.stack) (hg : Gl X x) (hm : X.mg x = some (.ref g)) (hk : PySem.W.keepIn X.K (.ref g) = true) (lk : X.K.lookup g = some ⟨oc, od, .func (PySem.W.fnOf x x pg bg sg dV kV doc pm an cdv ct), osl⟩)
    (hcg : PySem.W.codeIn X.K cdv x = true) (hb : L2.Binds X.K (PySem.W.fnOf x x pg bg sg dV kV doc pm an cdv ct) [a] []) (Sg : FnScope Ng [a] sg) (hNg : Ng[0]? = some a) (hva : Vis sg a) (hG : LamX.GivesTo X Ng x sg g cdv bg a (X.env.qual ++ "<lambda>") TT)
    (hr : Room (k + 2) X.A) (L : LamD X.N X.env.scope scope) (hbind : ∀ (s : Shared) (q : Str) (cl : List (Str × Addr)) (tA : Addr) (doc pm cv ctv u : Value), s.heap.get? tA = some (PySem.W.kdv_tup [u]) → BindsTo s (PySem.W.kdv_fn "<lambda>" q params (.expr body) scope cl (.ref tA) doc pm cv ctv) ⟨[], []⟩ [(b, u)]) (hbl : scope.names.lookup b = some .local)
    (hbody : ∀ (A : Around) (outer : List Env) (s : Shared) (H : Hp) (E : XK) (f c' : Addr), Room k (A.deeper (LamX.lamEnv X scope s.heap.objs.size f c')) → PE (LamX.lamCx X A outer s H E scope f c') body (t E)) (ha : PE X ea (tVar j))
    (hdb : (x == ("__debug__" : Str)) = false := by decide) (hd : (a == ("__debug__" : Str)) = false := by decide) (hcd : (a == ("__classdict__" : Str)) = false := by decide)
    (he : starEach [ea] X.env = (false, eval ea X.env) :: starEach [] X.env := by rfl) (hpl : (backTo pos (starEach [] X.env)).any (·.1) = false := by rfl) :
    PE X (.Call (.Name x p) [ea] [] pos) (fun σ H Q => σ[j]? = some (some (.ref f)) ∧ H c' = some (LamX.CodeO c' q) ∧ TT (fun E H' Q' => t E σ H' Q') H Q) := by
  refine ⟨fun pins s σ H Q I h => wpAny_Call_Name_kw (ld_glob I hg hm (PySem.W.callWith_K I.ok.mod.kin hk ?_ he hpl) hdb)⟩
  subst hq
  obtain ⟨hσ, hco, hT⟩ := h
  refine thn ((pa_cons ha pa_nil he).run pos pins s σ H (fun vs H1 => vs = [.ref f] ∧ H1 = H) I ⟨_, hσ, rfl, rfl⟩) fun us s1 y => ?_
  obtain ⟨vs, H1, I1, r1, rfl, rfl⟩ := y
  obtain ⟨w, rfl, rw_⟩ := r1.one
  have rw2 : w = Value.ref f := rw_
  subst rw2
  refine ⟨I1.kIn, ?_⟩
  obtain ⟨hf, hfn, _⟩ := I1.pin _ (List.mem_append_left _ hpin)
  obtain ⟨hA, hAn, _⟩ := I1.pin _ (List.mem_append_left _ hpA)
  have rc := LamX.run_ofS (CX := C8.CX0) (E := C8.E0) (Q := Q) lk hcg Sg hr I1.env0 (hb s1 [Value.ref f] I1.kIn rfl) (show Vals [V.ref f] [Value.ref f] from .cons rfl .nil) rfl (fun hr' => by
    obtain ⟨t', ht', hq'⟩ := hG f c' s1 H1 Q (fun E H' Q' => t E σ H' Q') (fun W pn xe E p1 p2 tk hW => pe_act3 I1 L hf hfn hfr hA hAn hfA hbind hbl tk hW hr' (fun A outer s H hr2 => hbody A outer s H E f c' hr2) hNg hva hd hcd) hco hT
    exact ⟨t', ht'.nox, hq'⟩)
  refine wpAny_call (codeAny_mono rc fun r s2 hq => ?_)
  cases r with
  | error e => exact (show False from hq).elim
  | ok fl =>
    cases fl with
    | next => exact (show False from hq).elim
    | brk => exact (show False from hq).elim
    | cont => exact (show False from hq).elim
    | ret u => exact I1.after hq
end
section
variable {X : Cx} {T : List (Addr × Str)} {c P : Addr} {params params2 : Arguments} {body body2 de : Expr} {scope scope2 : Scope} {lpos lpos2 lp py pos : Pos} {y : Str} {i : Nat} {n : Int} {rest : List Stmt} {u : Addr → Addr → Addr → Addr → TS}
/-- xs = [lambda: e, lambda a=n: e2] -/
theorem pss_lamset2 {q : Str} (hq : X.env.qual ++ "<lambda>" = q) (hst : X.stack = X.env :: X.outer) (hfm : X.env.frame = some X.env.locals) (hN : X.N.Nodup) (hi : X.N[i]? = some y) (hy : Loc X.env.scope y) (TB : LamX.TabB X.base X.mg c P) (hcode : X.env.code = .ref c) (hmT : (P, X.env.qual ++ "<lambda>") ∈ T)
    (hu : ∀ p ∈ T, p.1 = P → p.2 = X.env.qual ++ "<lambda>") (L : LamX.LamS X.env.scope scope) (hdef : defaultsOf params X.env = ([], [])) (M2 : LamD X.N X.env.scope scope2) (hdf : params2.defaults = [de]) (hkd : params2.kw_defaults = [])
    (hde : ∀ pn xe, PE (X.tr pn xe) de (fun _ H Q => Q (.int n) H))
    (hrest : ∀ (f c' f2 c2 tA : Addr) (pm ctv u2 doc2 pm2 ctv2 : Value) (pn' : List (Addr × Obj)), f ∉ frs X.stack → (f, lamO X params body scope pm c' ctv) ∈ pn' → f2 ∉ frs X.stack → tA ∉ frs X.stack → (f2, dlamO X params2 body2 scope2 tA doc2 pm2 c2 ctv2) ∈ pn' → (tA, PySem.W.kdv_tup [u2]) ∈ pn' → (∀ p ∈ X.pn, p ∈ pn') → PSs (X.tr pn' X.xe) rest (u f c' f2 c2))
    (hs : swapsWith (.List [.Lambda params body scope lpos, .Lambda params2 body2 scope2 lpos2] lp) (some (.Name y py)) pos.line X.env = pure false := by rfl) (hl : X.fn y = true ∨ X.env.scope.names.lookup y = some .local := by first | exact .inr rfl | exact .inl rfl) :
    PSs X (.Assign [.Name y py] (.List [.Lambda params body scope lpos, .Lambda params2 body2 scope2 lpos2] lp) pos :: rest)
      (fun D σ H => LamX.Tabs T H ∧ ∀ (f c' f2 c2 : Addr) (H1 H2 : Hp), LamX.ExtN H H1 → LamX.Tabs T H1 → H1 f = none → H1 c' = some (LamX.CodeO c' q) → LamX.ExtN H1 H2 → LamX.Tabs T H2 → H2 f = none → H2 f2 = none → H2 c' = some (LamX.CodeO c' q) → H2 c2 = some (LamX.CodeO c2 q) → ∀ p, H2 p = none → u f c' f2 c2 D (σ.set i (some (.ref p))) (upd H2 p (.lst [.ref f, .ref f2]))) := by
  refine ⟨fun pins s σ H D I h => ?_⟩
  subst hq
  obtain ⟨hT, h⟩ := h
  have kk := I.ok
  refine wpAny_execs_cons (wpAny_Assign_Name (wpAny_List_spliced ?_) hs)
  show wpAny _ _ (spliced [(false, _), (false, _)]) _ _ _
  refine Calls.spliced_cons (LamX.lam_make2 I TB hcode hmT hu hT hdef (L.has I.ok) fun f c' pm ctv H1 s' I1 eN T1 hf hfn hfr hco => ?_)
  have I2 := inv_pin I1 hst hfm hf hfn hfr (fun v z => by cases z)
  have hX : X.tr X.pn X.xe = X := rfl
  refine Calls.spliced_cons (lam_make3 I2 TB hcode hmT hu T1 hdf hkd (hX ▸ hde X.pn X.xe) (M2.has I.ok) fun f2 c2 tA u2 doc2 pm2 ctv2 H2 s2 J1 eN2 T2 gA gf2 nf2 nA ff2 fA hco2 => Calls.spliced_nil ⟨(by show 2 ≤ sizeLine; decide), ?_⟩)
  have J2 := inv_pin J1 hst hfm gA nA fA (fun v z => by cases z)
  have J3 := inv_pin J2 hst hfm gf2 nf2 ff2 (fun v z => by cases z)
  have hfresh := J3.hok.fresh (Nat.le_refl s2.heap.objs.size)
  have nf : H2 f = none := (J3.pin (f, lamO X params body scope pm c' ctv) (by simp)).2.1
  have J4 : Inv X (pins ++ [(f, lamO X params body scope pm c' ctv)] ++ [(tA, PySem.W.kdv_tup [u2])] ++ [(f2, dlamO X params2 body2 scope2 tA doc2 pm2 c2 ctv2)]) σ (upd H2 s2.heap.objs.size (.lst [.ref f, .ref f2])) { s2 with heap := s2.heap.push { cls := .type "list", data := .seq (List.toArray [Value.ref f, Value.ref f2]) } } :=
    J3.laid (t' := s2.toks) (fun b w e => Heap.get?_push_of_some _ e) (Nat.le_refl _) ⟨(by show 2 ≤ sizeLine; decide), [Value.ref f, Value.ref f2], 0, .cons rfl (.cons rfl .nil), Heap.get?_push_size s2.heap rfl⟩
  refine store_ok (v := .ref s2.heap.objs.size) J4 hN hi hy rfl (fun s3 I4 => ?_) hl
  have I5 : Inv X (pins ++ ([(f, lamO X params body scope pm c' ctv)] ++ [(tA, PySem.W.kdv_tup [u2])] ++ [(f2, dlamO X params2 body2 scope2 tA doc2 pm2 c2 ctv2)])) (σ.set i (some (.ref s2.heap.objs.size))) (upd H2 s2.heap.objs.size (.lst [.ref f, .ref f2])) s3 := by rw [← List.append_assoc, ← List.append_assoc]; exact I4
  have kr := (hrest f c' f2 c2 tA pm ctv u2 doc2 pm2 ctv2 (X.pn ++ (pins ++ ([(f, lamO X params body scope pm c' ctv)] ++ [(tA, PySem.W.kdv_tup [u2])] ++ [(f2, dlamO X params2 body2 scope2 tA doc2 pm2 c2 ctv2)]))) hfr (by simp) ff2 fA (by simp) (by simp) (fun p hp => List.mem_append_left _ hp)).run [] s3 _ _ D (I5.toTry X.xe) (h f c' f2 c2 H1 H2 eN T1 hfn hco eN2 T2 nf nf2 (eN2 _ _ hco (fun ps => LamX.codeO_ne ps)) hco2 _ hfresh)
  exact wpAny_mono kr (fun fl z hsp => sp_back kk hsp) (fun _ _ y => y)
end
end WB
namespace WB
open PySem PySem.Spec PyProof.Rows L2
/-! ### a method called by keywords alone -/
section
variable {X : Cx} {k n : Nat} {C : Addr} {ps ks : List Str} {sp : Sp} {E : XK} {m : Str} {apos pos : Pos} {pl : Sem Bool} {o : Expr} {ta : TE} {kws : List Keyword} {tk : TA} {gV : List V → List V → List V}
theorem pe_methW0 (ho : PE X o ta) (c : CalMW X.prog X.w X.K X.mg X.base k C m ps 0 ks gV sp) (hr : Room k X.A) (hx : Passes (L2.CX X.prog X.w) X E) (hkw : PK X kws tk)
    (hall : (backToKw pos (keywordEach kws X.env)).all (·.1.isSome) = true := by rfl) (hks : (backToKw pos (keywordEach kws X.env)).filterMap (·.1) = ks := by rfl)
    (hpl : ((backTo pos (starEach [] X.env)).any (·.1) || (backToKw pos (keywordEach kws X.env)).any (·.1.isNone)) = false := by rfl)
    (ht : eval (.Call (.Attribute o m apos) [] kws pos) X.env = (do
      let ov ← eval o X.env
      standAt apos.atName
      let (f, first) ← holding [ov] (getMethod ov m pl)
      callWith pos f first (backTo pos (starEach [] X.env)) (backToKw pos (keywordEach kws X.env))) := by rfl) :
    PE X (.Call (.Attribute o m apos) [] kws pos) (tMethN C m 0 ks.length sp gV E ta tNil tk) := by
  obtain ⟨f, fd, g, hc, hm, F, hb⟩ := c
  refine ⟨fun pins s σ H Q I h => ?_⟩
  refine PySem.W.methodCall_KW (pl := pl) (thn (ho.run pins s σ H _ I h) fun u s1 y => ?_) ht
  obtain ⟨x, H1, I1, rx, a, dx, fs, rfl, ea, l, q⟩ := y
  obtain rfl : u = Value.ref a := rx
  refine getmeth_ok I1 ea hc hm l ?_
  refine PySem.W.callWith_KW0 (I1.ok.mod.kin) hm.kp hall (thn (hkw.run pos pins s1 σ H1 _ I1 q) fun ws s2 y => ?_) hpl
  obtain ⟨zs, H2, I2, rz, l1, l2, q3⟩ := y
  refine ⟨I2.kIn, ?_⟩
  rw [hks]
  exact run_fnN (us := [.ref a]) (vs := [.ref a]) F hr hb hx I2 (.cons rfl .nil) rz rfl l2 q3
theorem pe_methW0F (ho : PE X o ta) (c : CalMW X.prog X.w X.K X.mg X.base k C m ps 0 ks gV sp) (hr : Room k X.A) (hkw : PK X kws tk)
    (hall : (backToKw pos (keywordEach kws X.env)).all (·.1.isSome) = true := by rfl) (hks : (backToKw pos (keywordEach kws X.env)).filterMap (·.1) = ks := by rfl)
    (hpl : ((backTo pos (starEach [] X.env)).any (·.1) || (backToKw pos (keywordEach kws X.env)).any (·.1.isNone)) = false := by rfl)
    (ht : eval (.Call (.Attribute o m apos) [] kws pos) X.env = (do
      let ov ← eval o X.env
      standAt apos.atName
      let (f, first) ← holding [ov] (getMethod ov m pl)
      callWith pos f first (backTo pos (starEach [] X.env)) (backToKw pos (keywordEach kws X.env))) := by rfl) :
    PE X (.Call (.Attribute o m apos) [] kws pos) (tMethN C m 0 ks.length sp gV E0 ta tNil tk) := pe_methW0 ho c hr passL hkw hall hks hpl ht
theorem kbn_self2 {K : PySem.W.Frag} {x qual sf y z : Str} {st : Stmt} {f : Addr} {fd : FuncData} (F : Fun K x qual st f fd) (h : ∀ (kV doc pm : Value) (an : Option Addr) (cdv ct : Value) (a u v : Value), bindArgs (PySem.W.fnOf x qual (defArgs st) (defBody st) (defScope st) .none kV doc pm an cdv ct) ⟨[a], [(z, u), (y, v)]⟩ = pure [(sf, a), (y, v), (z, u)]) :
    ∃ g, KBn K fd [sf, y, z] 1 [z, y] g (fun vs zs => vs ++ two zs) := by
  refine ⟨fun us ws => us ++ two ws, fun s us ws X l1 hl M A E Q q => ?_, fun {vs us zs ws} r rz => ?_⟩
  · obtain ⟨oc, od, kV, doc, pm, an, cdv, ct, osl, rfl, _⟩ := F.ex
    match us, l1, ws, hl, q with
    | [a], _, [u, v], _, q =>
      show wpAny M A (bindArgs _ ⟨[a], [(z, u), (y, v)]⟩) Q E s
      rw [h]
      exact wpAny_pure q
  · refine r.append ?_
    cases rz with
    | nil => exact .nil
    | cons a r =>
      cases r with
      | nil => exact .nil
      | cons b r =>
        cases r with
        | nil => exact .cons b (.cons a .nil)
        | cons _ _ => exact .nil
end
end WB
namespace WB
open PySem PySem.Spec PyProof.Rows L2
section
variable {P : Program} {w : World} {K : PySem.W.Frag} {mg : Str → Option Value} {base : Heap}
theorem sc_i_LineError : FnScope ["self", "word", "text"] ["self", "word", "text"] (defScope i_LineError) := ⟨rfl, rfl, rfl, by decide +kernel, rfl, by decide +kernel, by decide +kernel⟩
theorem ok_i_LineError {f : Addr} {fd : FuncData} {k : Nat} {dvs : List V} (F : FunD K "__init__" "LineError.__init__" (defArgs i_LineError) (defBody i_LineError) (defScope i_LineError) dvs [] f fd) (n_ValueError : mg "ValueError" = none) (vV : PySem.W.findCls K (.type "ValueError") (.type "type") "__init__" = some (.val (.builtin "ValueError.__init__"))) :
    FnOk P w K mg base CX0 (k + 1) f fd ["self", "word", "text"] (spLE K) := by
  have sc := sc_i_LineError
  refine F.ok sc (fun vs H Q E h => ?_) (fun cdv A outer s H vs Q E hr h => ?_)
  · obtain ⟨a, C, w, t, rfl, _⟩ := h
    rfl
  · obtain ⟨a, C, w, t, rfl, hC, hw, ha, q⟩ := h
    refine ⟨_, PSs.nox (pss_cons (ps_expr (pe_veinit (by rfl) n_ValueError vV (pa_cons (pv 0) (pa_cons (pv 2) pa_nil)))) (pss_one (ps_ost (pv 0) (pv 1)))), ?_⟩
    refine ⟨_, rfl, _, rfl, a, C, [t], rfl, by show 1 ≤ 1000; decide, hC, ha, ?_⟩
    exact ⟨_, rfl, _, rfl, a, C, rfl, hC, hw, .inl ⟨ha, fun d nd da => q d nd da⟩⟩
theorem sc_i_BadBit : FnScope ["self", "at"] ["self", "at"] (defScope i_BadBit) := ⟨rfl, rfl, rfl, by decide +kernel, rfl, by decide +kernel, by decide +kernel⟩
theorem ok_i_BadBit {f fL C CL : Addr} {fd fdL : FuncData} {k : Nat} (F : Fun K "__init__" "BadBit.__init__" i_BadBit f fd) (TL : ClsFn K mg "LineError" "__init__" CL fL) (FL : FnOk P w K mg base CX0 k fL fdL ["self", "word", "text"] (spLE K)) (bL : Binds K fdL ["self", "word", "text"] [])
    (hC : OexC K C) (hw : PySem.W.findIn K (.ref C) "word" = some none) (hf : PySem.W.findIn K (.ref C) "at" = some none) : FnOk P w K mg base CX0 (k + 1) f fd ["self", "at"] (spIni K C "BadBit" "at") := by
  have sc := sc_i_BadBit
  refine F.ok sc (fun vs H Q E h => ?_) (fun cdv A outer s H vs Q E hr h => ?_)
  · obtain ⟨a, i, rfl, _⟩ := h
    rfl
  · obtain ⟨a, i, rfl, hi, ha, q⟩ := h
    refine ⟨_, (pss_cons (ps_expr (pe_clsfn TL FL hr bL pass0 (by rfl) (pa_cons (pv 0) (pa_cons pe_str (pa_cons (pe_joined (.cons pe_str (.cons (pe_fmt (pv 1)) .nil))) pa_nil))))) (pss_one (ps_ost (pv 0) (pv 1)))), ?_⟩
    refine ⟨_, rfl, _, rfl, (by decide +kernel), _, rfl, .inr ⟨i, rfl, by omega, _, rfl, txt_fits (by decide +kernel) hi, ?_⟩⟩
    refine ⟨a, C, _, _, rfl, hC, hw, ha, fun d nd da => ?_⟩
    refine ⟨_, rfl, _, rfl, a, C, rfl, hC, hf, .inr ⟨d, _, upd_same, ?_, by show 1 ≤ 900; decide, q d nd da⟩⟩
    rw [upd_ne da, upd_same]
theorem sc_i_BadFrame : FnScope ["self", "at"] ["self", "at"] (defScope i_BadFrame) := ⟨rfl, rfl, rfl, by decide +kernel, rfl, by decide +kernel, by decide +kernel⟩
theorem ok_i_BadFrame {f fL C CL : Addr} {fd fdL : FuncData} {k : Nat} (F : Fun K "__init__" "BadFrame.__init__" i_BadFrame f fd) (TL : ClsFn K mg "LineError" "__init__" CL fL) (FL : FnOk P w K mg base CX0 k fL fdL ["self", "word", "text"] (spLE K)) (bL : Binds K fdL ["self", "word", "text"] [])
    (hC : OexC K C) (hw : PySem.W.findIn K (.ref C) "word" = some none) (hf : PySem.W.findIn K (.ref C) "at" = some none) : FnOk P w K mg base CX0 (k + 1) f fd ["self", "at"] (spIni K C "BadFrame" "at") := by
  have sc := sc_i_BadFrame
  refine F.ok sc (fun vs H Q E h => ?_) (fun cdv A outer s H vs Q E hr h => ?_)
  · obtain ⟨a, i, rfl, _⟩ := h
    rfl
  · obtain ⟨a, i, rfl, hi, ha, q⟩ := h
    refine ⟨_, (pss_cons (ps_expr (pe_clsfn TL FL hr bL pass0 (by rfl) (pa_cons (pv 0) (pa_cons pe_str (pa_cons (pe_joined (.cons pe_str (.cons (pe_fmt (pv 1)) .nil))) pa_nil))))) (pss_one (ps_ost (pv 0) (pv 1)))), ?_⟩
    refine ⟨_, rfl, _, rfl, (by decide +kernel), _, rfl, .inr ⟨i, rfl, by omega, _, rfl, txt_fits (by decide +kernel) hi, ?_⟩⟩
    refine ⟨a, C, _, _, rfl, hC, hw, ha, fun d nd da => ?_⟩
    refine ⟨_, rfl, _, rfl, a, C, rfl, hC, hf, .inr ⟨d, _, upd_same, ?_, by show 1 ≤ 900; decide, q d nd da⟩⟩
    rw [upd_ne da, upd_same]
theorem sc_i_BadCount : FnScope ["self"] ["self"] (defScope i_BadCount) := ⟨rfl, rfl, rfl, by decide +kernel, rfl, by decide +kernel, by decide +kernel⟩
theorem ok_i_BadCount {f fL C CL : Addr} {fd fdL : FuncData} {k : Nat} (F : Fun K "__init__" "BadCount.__init__" i_BadCount f fd) (TL : ClsFn K mg "LineError" "__init__" CL fL) (FL : FnOk P w K mg base CX0 k fL fdL ["self", "word", "text"] (spLE K)) (bL : Binds K fdL ["self", "word", "text"] [])
    (hC : OexC K C) (hw : PySem.W.findIn K (.ref C) "word" = some none) : FnOk P w K mg base CX0 (k + 1) f fd ["self"] (spIni0 K C "BadCount") := by
  have sc := sc_i_BadCount
  refine F.ok sc (fun vs H Q E h => ?_) (fun cdv A outer s H vs Q E hr h => ?_)
  · obtain ⟨a, rfl, _⟩ := h
    rfl
  · obtain ⟨a, rfl, ha, q⟩ := h
    refine ⟨_, (pss_one (ps_expr (pe_clsfn TL FL hr bL pass0 (by rfl) (pa_cons (pv 0) (pa_cons pe_str (pa_cons pe_str pa_nil)))))), ?_⟩
    exact ⟨_, rfl, a, C, _, _, rfl, hC, hw, ha, fun d nd da => q d nd da⟩
theorem sc_i_BadRate : FnScope ["self"] ["self"] (defScope i_BadRate) := ⟨rfl, rfl, rfl, by decide +kernel, rfl, by decide +kernel, by decide +kernel⟩
theorem ok_i_BadRate {f fL C CL : Addr} {fd fdL : FuncData} {k : Nat} (F : Fun K "__init__" "BadRate.__init__" i_BadRate f fd) (TL : ClsFn K mg "LineError" "__init__" CL fL) (FL : FnOk P w K mg base CX0 k fL fdL ["self", "word", "text"] (spLE K)) (bL : Binds K fdL ["self", "word", "text"] [])
    (hC : OexC K C) (hw : PySem.W.findIn K (.ref C) "word" = some none) : FnOk P w K mg base CX0 (k + 1) f fd ["self"] (spIni0 K C "BadRate") := by
  have sc := sc_i_BadRate
  refine F.ok sc (fun vs H Q E h => ?_) (fun cdv A outer s H vs Q E hr h => ?_)
  · obtain ⟨a, rfl, _⟩ := h
    rfl
  · obtain ⟨a, rfl, ha, q⟩ := h
    refine ⟨_, (pss_one (ps_expr (pe_clsfn TL FL hr bL pass0 (by rfl) (pa_cons (pv 0) (pa_cons pe_str (pa_cons pe_str pa_nil)))))), ?_⟩
    exact ⟨_, rfl, a, C, _, _, rfl, hC, hw, ha, fun d nd da => q d nd da⟩
theorem sc_i_BadTaps : FnScope ["self"] ["self"] (defScope i_BadTaps) := ⟨rfl, rfl, rfl, by decide +kernel, rfl, by decide +kernel, by decide +kernel⟩
theorem ok_i_BadTaps {f fL C CL : Addr} {fd fdL : FuncData} {k : Nat} (F : Fun K "__init__" "BadTaps.__init__" i_BadTaps f fd) (TL : ClsFn K mg "LineError" "__init__" CL fL) (FL : FnOk P w K mg base CX0 k fL fdL ["self", "word", "text"] (spLE K)) (bL : Binds K fdL ["self", "word", "text"] [])
    (hC : OexC K C) (hw : PySem.W.findIn K (.ref C) "word" = some none) : FnOk P w K mg base CX0 (k + 1) f fd ["self"] (spIni0 K C "BadTaps") := by
  have sc := sc_i_BadTaps
  refine F.ok sc (fun vs H Q E h => ?_) (fun cdv A outer s H vs Q E hr h => ?_)
  · obtain ⟨a, rfl, _⟩ := h
    rfl
  · obtain ⟨a, rfl, ha, q⟩ := h
    refine ⟨_, (pss_one (ps_expr (pe_clsfn TL FL hr bL pass0 (by rfl) (pa_cons (pv 0) (pa_cons pe_str (pa_cons pe_str pa_nil)))))), ?_⟩
    exact ⟨_, rfl, a, C, _, _, rfl, hC, hw, ha, fun d nd da => q d nd da⟩
theorem sc_i_BadNoise : FnScope ["self"] ["self"] (defScope i_BadNoise) := ⟨rfl, rfl, rfl, by decide +kernel, rfl, by decide +kernel, by decide +kernel⟩
theorem ok_i_BadNoise {f fL C CL : Addr} {fd fdL : FuncData} {k : Nat} (F : Fun K "__init__" "BadNoise.__init__" i_BadNoise f fd) (TL : ClsFn K mg "LineError" "__init__" CL fL) (FL : FnOk P w K mg base CX0 k fL fdL ["self", "word", "text"] (spLE K)) (bL : Binds K fdL ["self", "word", "text"] [])
    (hC : OexC K C) (hw : PySem.W.findIn K (.ref C) "word" = some none) : FnOk P w K mg base CX0 (k + 1) f fd ["self"] (spIni0 K C "BadNoise") := by
  have sc := sc_i_BadNoise
  refine F.ok sc (fun vs H Q E h => ?_) (fun cdv A outer s H vs Q E hr h => ?_)
  · obtain ⟨a, rfl, _⟩ := h
    rfl
  · obtain ⟨a, rfl, ha, q⟩ := h
    refine ⟨_, (pss_one (ps_expr (pe_clsfn TL FL hr bL pass0 (by rfl) (pa_cons (pv 0) (pa_cons pe_str (pa_cons pe_str pa_nil)))))), ?_⟩
    exact ⟨_, rfl, a, C, _, _, rfl, hC, hw, ha, fun d nd da => q d nd da⟩
theorem sc_check_bits : FnScope ["bits", "at", "bit"] ["bits"] (defScope s_check_bits) := ⟨rfl, rfl, rfl, by decide +kernel, rfl, by decide +kernel, by decide +kernel⟩
/-- all of them are bits, or the first that is none -/
def spCheckX (K : PySem.W.Frag) (C : Addr) : Sp := fun vs H Q E => ∃ (a : Addr) (ns : List Int), vs = [.ref a] ∧ SqL K H a (ns.map V.int) ∧ ns.length ≤ 100000 ∧ (Bits ns → ∀ H', Same H H' → Q .non H') ∧
  (∀ (i : Nat) (z : Int), ns[i]? = some z → ¬ isB z → Bits (ns.take i) → ∀ H' d, Same H H' → H d = none → H' d = some (.xd [(("at" : Str), .int (i : Int)), (("word" : Str), .str "BadBit")]) → E (.ref C) (some d) H')
theorem log_le {n : Nat} (h : n ≤ 100000) : ((n : Int)).natAbs.log2 < 1000 := by
  rw [Int.natAbs_natCast]
  by_cases z : n = 0
  · subst z
    decide
  · exact (Nat.log2_lt z).mpr (Nat.lt_of_le_of_lt h (by decide))
theorem ok_check_bits {f C : Addr} {fd : FuncData} {k : Nat} (F : Fun K "check_bits" "check_bits" s_check_bits f fd) (n_enumerate : mg "enumerate" = none) (x_BadBit : XcOk P w K mg base k "BadBit" C (spIni K C "BadBit" "at")) : FnOk P w K mg base (L2.CX P w) (k + 2) f fd ["bits"] (spCheckX K C) := by
  have sc := sc_check_bits
  refine F.okX sc (fun vs H Q E h => ?_) (fun cdv A outer s H vs Q E hr h => ?_)
  · obtain ⟨a, ns, rfl, _⟩ := h
    rfl
  · obtain ⟨a, ns, rfl, hS, hl, q, qe⟩ := h
    refine ⟨_, (pss_one (ps_for (passes_of rfl) rfl (pi_enum (by rfl) n_enumerate (pa_cons (pv 0) pa_nil)) (pg_tup rfl (pgs_cons (pg_name (i := 1) sc.nd rfl (.inl rfl)) (pgs_cons (pg_name (i := 2) sc.nd rfl (.inl rfl)) pgs_nil)))
  (pss_one (ps_if (pt_cmpR (op_notInK K rfl) (pv 2) (pe_tup (pa_cons pe_int (pa_cons pe_int pa_nil))) (by rfl))
  (pss_one (ps_raise rfl (takes_of rfl rfl rfl rfl) (pmk_c x_BadBit hr (by rfl) (pa_cons (pv 1) pa_nil))))
  pss_nil)))), ?_⟩
    refine ⟨_, rfl, a, _, rfl, hS, for_enumK (xs := ns.map V.int) (fun i σ H' => ∃ y1 y2, σ = [some (.ref a), y1, y2] ∧ Same H H' ∧ Bits (ns.take i)) ⟨none, none, rfl, Same.refl H, bits_nil⟩ (fun i σ H' _ h => ?_) ?_ ?_⟩
    · obtain ⟨y1, y2, _, sm, _⟩ := h
      exact sm.seq hS
    · rintro i x T σ H' hx ⟨y1, y2, rfl, sm, hbi⟩ nT
      obtain ⟨z, hz, rfl⟩ := getI hx
      have s1 := sm.trans (same_upd (o := .tup [.int (i : Nat), .int z]) nT)
      refine ⟨T, _, rfl, SqT.of upd_same, rfl, _, _, rfl, _, _, rfl, rfl, ?_⟩
      refine ⟨_, rfl, (by show 2 ≤ sizeLine; decide), fun p np => ?_⟩
      have s2 := s1.trans (same_upd (o := .tup [.int 0, .int 1]) np)
      refine ⟨p, _, rfl, .inr (SqT.of upd_same), rfl, rfl, _, rfl, ite2 (fun e => ?_) (fun e => ?_)⟩
      · have e : (!inV (.int z) [.int 0, .int 1]) = true := e
        have nb : ¬ isB z := by
          rintro (rfl | rfl)
          · exact absurd e (by decide)
          · exact absurd e (by decide)
        have hil : i < ns.length := (List.getElem?_eq_some_iff.mp hz).1
        refine ⟨_, rfl, mk_inner (log_le (by omega)) (fun H3 d s3 nd ed => qe i z hz nb hbi H3 d (s2.trans s3) (s2.free nd) ed)⟩
      · have e : ¬ (!inV (.int z) [.int 0, .int 1]) = true := e
        have yb : isB z := by
          have hh : inV (.int z) (([0, 1] : List Int).map V.int) = true := by
            cases q : inV (.int z) [.int 0, .int 1] with
            | true => exact q
            | false => rw [q] at e; exact absurd rfl e
          rw [inV_ints] at hh
          have := of_decide_eq_true hh
          simpa [isB] using this
        refine ⟨_, _, rfl, s2, ?_⟩
        rw [take_more hz]
        exact bits_app hbi (bits_one yb)
    · rintro σ H' ⟨y1, y2, rfl, sm, hbi⟩
      rw [List.length_map, List.take_length] at hbi
      exact q hbi H' sm
/-! ### numbers in bits -/
def bn (bs : List Int) : Int := bs.foldl (fun n b => 2 * n + b) 0
theorem bn_more {bs : List Int} {i : Nat} {b : Int} (h : bs[i]? = some b) : bn (bs.take (i + 1)) = 2 * bn (bs.take i) + b := by
  unfold bn
  rw [take_more h, List.foldl_append]
  rfl
theorem bn_acc (n : Nat) : ∀ (i : Nat) (c : Int), (wr i (n : Int)).foldl (fun n b => 2 * n + b) c = c * 2 ^ i + ((n % 2 ^ i : Nat) : Int)
  | 0, c => by
    show c = c * 1 + ((n % 1 : Nat) : Int)
    rw [Nat.mod_one]
    omega
  | i + 1, c => by
    show (wr i (n : Int)).foldl _ (2 * c + ((n : Int) / 2 ^ i) % 2) = _
    rw [bn_acc n i]
    have e : ((n : Int) / 2 ^ i) % 2 = ((n / 2 ^ i % 2 : Nat) : Int) := by
      rw [Int.natCast_emod, Int.natCast_ediv, Int.natCast_pow]
      rfl
    rw [e, Nat.mod_pow_succ, Int.natCast_add, Int.natCast_mul, Int.natCast_pow, Int.pow_succ, Int.add_mul]
    have e2 : (2 * c) * 2 ^ i = c * (2 ^ i * 2) := by
      rw [Int.mul_comm 2 c, Int.mul_assoc, Int.mul_comm 2 (2 ^ i)]
    rw [e2]
    have e3 : ((n / 2 ^ i % 2 : Nat) : Int) * 2 ^ i = (2 : Int) ^ i * ((n / 2 ^ i % 2 : Nat) : Int) := Int.mul_comm _ _
    show _ + ((n / 2 ^ i % 2 : Nat) : Int) * 2 ^ i + ((n % 2 ^ i : Nat) : Int) = _ + (((n % 2 ^ i : Nat) : Int) + (2 : Int) ^ i * ((n / 2 ^ i % 2 : Nat) : Int))
    rw [e3]
    omega
theorem bn_wr {n : Int} {i : Nat} (h0 : 0 ≤ n) (h1 : n < 2 ^ i) : bn (wr i n) = n := by
  obtain ⟨m, rfl⟩ : ∃ m : Nat, n = (m : Int) := ⟨n.toNat, by omega⟩
  unfold bn
  rw [bn_acc, Nat.mod_eq_of_lt (by exact_mod_cast h1)]
  omega
theorem pow64 {k : Nat} (h : k ≤ 64) : (1 : Int) ≤ 2 ^ k ∧ (2 : Int) ^ k ≤ 18446744073709551616 := by
  have h1 : (2 : Nat) ^ k ≤ 18446744073709551616 := Nat.le_trans (Nat.pow_le_pow_right (by decide) h) (by decide)
  have h2 : 1 ≤ (2 : Nat) ^ k := Nat.one_le_two_pow
  have e : ((2 ^ k : Nat) : Int) = (2 : Int) ^ k := Int.natCast_pow 2 k
  rw [← e]
  generalize 2 ^ k = x at h1 h2 ⊢
  omega
theorem lt_of_div {n : Int} {k : Nat} (h : n / 2 ^ k = 0) : n < 2 ^ k := by
  have h1 := Int.mul_ediv_add_emod n (2 ^ k)
  rw [h, Int.mul_zero, Int.zero_add] at h1
  have := Int.emod_lt_of_pos n (b := 2 ^ k) (Int.pow_pos (by decide))
  omega
theorem sc_number_bits : FnScope ["number", "many", "place"] ["number", "many"] (defScope s_number_bits) := ⟨rfl, rfl, rfl, by decide +kernel, rfl, by decide +kernel, by decide +kernel⟩
def spNbX (cN : Addr) : Sp := fun vs H Q E => ∃ (n mm : Int), vs = [.int n, .int mm] ∧
  (∀ m : Nat, mm = (m : Int) → m ≤ 64 → 0 ≤ n → n < 2 ^ m → ∀ (H' : Hp) (p : Addr), Same H H' → H p = none → H' p = some (.lst ((wr m n).map V.int)) → Q (.ref p) H') ∧
  (mm < 0 ∨ 64 < mm ∨ n < 0 ∨ 2 ^ mm.toNat ≤ n → ∀ H' d, Same H H' → H d = none → H' d = some (.xd [(("word" : Str), .str "BadCount")]) → E (.ref cN) (some d) H')
theorem wr_get : ∀ (m : Nat) (n : Int) (i : Nat), i < m → (wr m n)[i]? = some (n / 2 ^ (m - 1 - i) % 2)
  | m + 1, n, 0, _ => by
    show some (n / 2 ^ m % 2) = _
    rfl
  | m + 1, n, i + 1, h => by
    show (wr m n)[i]? = _
    rw [wr_get m n i (by omega), show m + 1 - 1 - (i + 1) = m - 1 - i by omega]
theorem lc_rngC {lo c : Int} {n : Nat} {g : TG} {tt : TT} {te : TE} {vs : List Nat} {σ : L2.St} {H1 : Hp} {D : Addr} {Qd : Hp → Prop} (Pv : Nat → Hp → Prop) (p0 : Pv 0 (upd H1 D (.lst [])))
    (ps : ∀ i H, i < n → Pv i H → g (.int (lo + (i : Nat) * c)) (wipe σ vs) H fun σ2 H2 => wipe σ2 vs = wipe σ vs ∧ tt σ2 H2 fun b H3 =>
      if b = true then te σ2 H3 fun y H4 => ∃ acc, H4 D = some (.lst acc) ∧ acc.length < sizeLine ∧ Pv (i + 1) (upd H4 D (.lst (acc ++ [y]))) else Pv (i + 1) H3) (pd : ∀ H, Pv n H → Qd H) :
    ∃ W : Nat → Nat → Hp → Prop, (∃ m, W 0 m (upd H1 D (.lst []))) ∧ ∀ i m H, W i m H →
      ((Itc lo c n).stop i H ∧ Qd H) ∨ ((Itc lo c n).go i H ∧ ∃ Nx : Hp → Prop, (∀ H', Nx H' → ∃ m', m' < m ∧ W (i + 1) m' H') ∧ ∀ y H', (Itc lo c n).yld i H y H' → g y (wipe σ vs) H' fun σ2 H2 => wipe σ2 vs = wipe σ vs ∧ tt σ2 H2 fun b H3 =>
        if b = true then te σ2 H3 fun y H4 => ∃ acc, H4 D = some (.lst acc) ∧ acc.length < sizeLine ∧ Nx (upd H4 D (.lst (acc ++ [y]))) else Nx H3) := by
  refine ⟨fun i m H => m = n - i ∧ i ≤ n ∧ Pv i H, ⟨_, rfl, Nat.zero_le _, p0⟩, fun i m H hw => ?_⟩
  obtain ⟨rfl, hi, p⟩ := hw
  by_cases hlt : i < n
  · refine .inr ⟨hlt, Pv (i + 1), fun H' p' => ⟨n - (i + 1), by omega, rfl, hlt, p'⟩, fun y H' hy => ?_⟩
    obtain ⟨rfl, rfl⟩ := hy
    exact ps i _ hlt p
  · obtain rfl : i = n := by omega
    exact .inl ⟨Nat.le_refl _, pd H p⟩
theorem ok_number_bits {f cN : Addr} {fd : FuncData} {k : Nat} {tM : Tok} (F : Fun K "number_bits" "number_bits" s_number_bits f fd) (n_range : mg "range" = none) (g_MOST_BITS : mg "MOST_BITS" = some (.int 64 tM)) (x_BadCount : XcOk P w K mg base k "BadCount" cN (spIni0 K cN "BadCount")) : FnOk P w K mg base (L2.CX P w) (k + 2) f fd ["number", "many"] (spNbX cN) := by
  have sc := sc_number_bits
  refine F.okX sc (fun vs H Q E h => ?_) (fun cdv A outer s H vs Q E hr h => ?_)
  · obtain ⟨n, m, rfl, _⟩ := h
    rfl
  · obtain ⟨n, mm, rfl, q', qn⟩ := h
    refine ⟨_, (pss_cons (ps_if (PW.pt (pw_or (pt_cmpR op_lt (pv 1) pe_int (nomark _)) (pw_or (pt_cmpR op_gt (pv 1) (pe_glob (v := .int 64) (by rfl) g_MOST_BITS ⟨_, rfl⟩) (nomark _)) (pw_or (pt_cmpR op_lt (pv 0) pe_int (nomark _)) (pw_or1 (pt_cmpR op_ne (pe_op op_shr (pv 0) (pv 1)) pe_int (nomark _)))))))
  (pss_one (ps_raise rfl (takes_of rfl rfl rfl rfl) (pmk_c0 x_BadCount hr (by rfl))))
  pss_nil)
 (pss_one (ps_ret (pe_lc (own := [("place", 2)]) (g := gName 2) (by rfl) sc.nd (pi_range3 (by rfl) n_range (pa_cons (pe_op op_sub (pv 1) pe_int) (pa_cons (pe_un un_neg pe_int) (pa_cons (pe_un un_neg pe_int) pa_nil)))) (blkOk_by (own := [("place", 2)]) (N := ["number", "many", "place"]) (sc := defScope s_number_bits) (by decide +kernel)) (fun _ _ _ _ _ => (pg_name (i := 2) sc.nd rfl (Or.inl rfl))) (fun _ _ _ _ _ => pts_nil) (fun _ _ _ _ _ => (pe_op op_and (pe_op op_shr (pv 0) (pv 2)) pe_int)))))), ?_⟩
    refine ⟨_, rfl, _, _, rfl, rfl, _, rfl, ite2 (fun e => ?_) (fun e1 => ?_)⟩
    · have e : mm < 0 := of_decide_eq_true e
      exact mk_inner0 (fun H3 d s3 nd ed => qn (.inl e) H3 d s3 nd ed)
    have e1 : ¬ mm < 0 := fun h => e1 (decide_eq_true h)
    refine ⟨_, rfl, _, _, rfl, rfl, _, rfl, ite2 (fun e => ?_) (fun e2 => ?_)⟩
    · have e : 64 < mm := of_decide_eq_true e
      exact mk_inner0 (fun H3 d s3 nd ed => qn (.inr (.inl e)) H3 d s3 nd ed)
    have e2 : ¬ 64 < mm := fun h => e2 (decide_eq_true h)
    refine ⟨_, rfl, _, _, rfl, rfl, _, rfl, ite2 (fun e => ?_) (fun e3 => ?_)⟩
    · have e : n < 0 := of_decide_eq_true e
      exact mk_inner0 (fun H3 d s3 nd ed => qn (.inr (.inr (.inl e))) H3 d s3 nd ed)
    have e3 : ¬ n < 0 := fun h => e3 (decide_eq_true h)
    obtain ⟨m, rfl⟩ : ∃ m : Nat, mm = (m : Int) := ⟨mm.toNat, by omega⟩
    refine ⟨_, rfl, _, rfl, _, _, rfl, rfl, by omega, rfl, _, rfl, ite2 (fun e => ?_) (fun e4 => ?_)⟩
    · have e : (!decide (V.int (n / 2 ^ (m : Int).toNat) = V.int 0)) = true := e
      have e5 : 2 ^ (m : Int).toNat ≤ n := by
        rcases Int.lt_or_le n (2 ^ (m : Int).toNat) with h | h
        · exfalso
          rw [Int.ediv_eq_zero_of_lt (by omega) h] at e
          exact absurd e (by decide)
        · exact h
      exact mk_inner0 (fun H3 d s3 nd ed => qn (.inr (.inr (.inr e5))) H3 d s3 nd ed)
    have e4 : ¬ (!decide (V.int (n / 2 ^ (m : Int).toNat) = V.int 0)) = true := e4
    have hn1 : n < 2 ^ m := by
      refine lt_of_div ?_
      rw [Int.toNat_natCast] at e4
      by_cases z : n / 2 ^ m = 0
      · exact z
      · exfalso
        refine e4 ?_
        rw [decide_eq_false (fun y => z (V.int.inj y))]
        rfl
    have hn0 : 0 ≤ n := by omega
    have hm : m ≤ 64 := by omega
    have q := q' m rfl hm hn0 hn1
    refine ⟨_, rfl, _, _, rfl, rfl, 1, rfl, 1, rfl, (m : Int) - 1, -1, -1, ((m : Int) - 1 - -1).toNat, rfl, RgC.neg (by omega) (by omega) (by decide) (by decide), fun D nD => ?_⟩
    rw [show ((m : Int) - 1 - -1).toNat = m by omega]
    refine lc_rngC (fun i H' => Same H H' ∧ H' D = some (.lst (((wr m n).take i).map V.int))) ⟨same_upd nD, upd_same⟩ ?_ ?_
    · rintro i H' hi ⟨sm, eD⟩
      refine ⟨rfl, tYes_by (iteT ?_)⟩
      have ep : (m : Int) - 1 + (i : Int) * -1 = ((m - 1 - i : Nat) : Int) := by omega
      refine ⟨_, rfl, _, rfl, _, _, rfl, rfl, by omega, _, _, rfl, rfl, _, eD, ?_, same_mut sm nD, ?_⟩
      · rw [List.length_map, List.length_take, wr_len]
        exact sz4l (by omega)
      · rw [upd_same, take_more (wr_get m n i hi), List.map_append]
        have e1 : Builtin.bitAnd (n / 2 ^ ((m : Int) - 1 + (i : Int) * -1).toNat) 1 = n / 2 ^ (m - 1 - i) % 2 := by
          rw [ep, Int.toNat_natCast]
          have h1 : 0 ≤ n / 2 ^ (m - 1 - i) := Int.ediv_nonneg hn0 (Int.pow_nonneg (by decide))
          have := _root_.Bits.bitAnd_mask (x := n / 2 ^ (m - 1 - i)) 1 h1
          exact this
        show _ = some (HO.lst (_ ++ [V.int _]))
        rw [← e1]
    · rintro H' ⟨sm, eD⟩
      rw [List.take_of_length_le (by rw [wr_len]; exact Nat.le_refl _)] at eD
      exact q H' D sm nD eD
theorem sc_bits_number : FnScope ["bits", "number", "bit"] ["bits"] (defScope s_bits_number) := ⟨rfl, rfl, rfl, by decide +kernel, rfl, by decide +kernel, by decide +kernel⟩
def spBnX (K : PySem.W.Frag) (cB cN : Addr) : Sp := fun vs H Q E => ∃ (a : Addr) (ns : List Int), vs = [.ref a] ∧ SqL K H a (ns.map V.int) ∧ ns.length ≤ 10000 ∧
  (Bits ns → ns.length ≤ 64 → ∀ H', Same H H' → Q (.int (bn ns)) H') ∧
  (Bits ns → 64 < ns.length → ∀ H' d, Same H H' → H d = none → H' d = some (.xd [(("word" : Str), .str "BadCount")]) → E (.ref cN) (some d) H') ∧
  (∀ (i : Nat) (z : Int), ns[i]? = some z → ¬ isB z → Bits (ns.take i) → ∀ H' d, Same H H' → H d = none → H' d = some (.xd [(("at" : Str), .int (i : Int)), (("word" : Str), .str "BadBit")]) → E (.ref cB) (some d) H')
theorem ok_bits_number {f cB cN : Addr} {fd : FuncData} {k : Nat} {tM : Tok} (F : Fun K "bits_number" "bits_number" s_bits_number f fd) (n_len : mg "len" = none) (g_MOST_BITS : mg "MOST_BITS" = some (.int 64 tM)) (x_BadCount : XcOk P w K mg base k "BadCount" cN (spIni0 K cN "BadCount")) (c_check_bits : CalX P w K mg base (k + 1) "check_bits" ["bits"] (spCheckX K cB)) : FnOk P w K mg base (L2.CX P w) (k + 2) f fd ["bits"] (spBnX K cB cN) := by
  have sc := sc_bits_number
  refine F.okX sc (fun vs H Q E h => ?_) (fun cdv A outer s H vs Q E hr h => ?_)
  · obtain ⟨a, ns, rfl, _⟩ := h
    rfl
  · obtain ⟨a, ns, rfl, hS, hl, q, qn, qb⟩ := h
    refine ⟨_, (pss_cons (ps_expr (pe_callP c_check_bits hr (passes_call (takes_of rfl rfl rfl rfl) (fun _ _ _ _ h => h)) (by rfl) (pa_cons (pv 0) pa_nil)))
 (pss_cons (ps_if (pt_cmpR op_gt (pe_callB (call_lenK K rfl) (by rfl) n_len PySem.boot_len (pa_cons (pv 0) pa_nil)) (pe_glob (v := .int 64) (by rfl) g_MOST_BITS ⟨_, rfl⟩) (nomark _))
  (pss_one (ps_raise rfl (takes_of rfl rfl rfl rfl) (pmk_c0 x_BadCount hr (by rfl))))
  pss_nil)
 (pss_cons (ps_set (i := 1) sc.nd rfl (.inl rfl) pe_int)
 (pss_cons (ps_for (passes_of rfl) rfl (pi_listK K rfl (pv 0)) (pg_name (i := 2) sc.nd rfl (.inl rfl))
  (pss_one (ps_set (i := 1) sc.nd rfl (.inl rfl) (pe_op op_add (pe_op op_mul pe_int (pv 1)) (pv 2)))))
 (pss_one (ps_ret (pv 1))))))), ?_⟩
    refine ⟨_, rfl, a, ns, rfl, hS, by omega, fun hB H1 s1 => ?_, qb⟩
    refine ⟨_, rfl, a, _, rfl, .inl (s1.seq hS), _, _, rfl, rfl, _, rfl, ite2 (fun e => ?_) (fun e => ?_)⟩
    · have e : (64 : Int) < ((ns.map V.int).length : Int) := of_decide_eq_true e
      rw [List.length_map] at e
      exact mk_inner0 (fun H3 d s3 nd ed => qn hB (by omega) H3 d (s1.trans s3) (s1.free nd) ed)
    have e : ¬ (64 : Int) < ((ns.map V.int).length : Int) := fun h => e (decide_eq_true h)
    rw [List.length_map] at e
    refine ⟨_, rfl, a, rfl, ⟨_, s1.seq hS⟩, for_list (K := K) (a := a) (xs := ns.map V.int) (fun i σ H' => ∃ y, σ = [some (.ref a), some (.int (bn (ns.take i))), y] ∧ H' = H1) ⟨none, rfl, rfl⟩ (fun i σ H' _ h => ?_) ?_ ?_⟩
    · obtain ⟨_, _, rfl⟩ := h
      exact s1.seq hS
    · rintro i x σ H' hx ⟨y, rfl, rfl⟩
      obtain ⟨z, hz, rfl⟩ := getI hx
      refine ⟨_, rfl, _, _, rfl, rfl, .inl ⟨by decide, by decide⟩, _, rfl, _, _, rfl, rfl, some (.int z), ?_, rfl⟩
      rw [bn_more hz]
      rfl
    · rintro σ H' ⟨y, rfl, rfl⟩
      rw [List.length_map, List.take_length]
      exact ⟨_, rfl, q hB (by omega) _ s1⟩
/-! ### stuffing -/
def stS (s : List Int × Nat) (b : Int) : List Int × Nat := if (if b = 1 then s.2 + 1 else 0) = 5 then (s.1 ++ [b] ++ [0], 0) else (s.1 ++ [b], if b = 1 then s.2 + 1 else 0)
def stR (ns : List Int) : List Int × Nat := ns.foldl stS ([], 0)
def stuffL (ns : List Int) : List Int := (stR ns).1
theorem stR_more {ns : List Int} {i : Nat} {b : Int} (h : ns[i]? = some b) : stR (ns.take (i + 1)) = stS (stR (ns.take i)) b := by
  unfold stR
  rw [take_more h, List.foldl_append]
  rfl
/-- how many 1 stand at its end -/
def tro (L : List Int) : Nat := (L.reverse.takeWhile (fun z => decide (z = 1))).length
theorem tro_snoc (L : List Int) (b : Int) : tro (L ++ [b]) = if b = 1 then tro L + 1 else 0 := by
  unfold tro
  rw [List.reverse_append]
  show ((b :: L.reverse).takeWhile _).length = _
  rw [List.takeWhile_cons]
  by_cases h : b = 1
  · rw [if_pos (decide_eq_true h), if_pos h]
    rfl
  · rw [if_neg (by simpa using h), if_neg h]
    rfl
structure StOk (s : List Int × Nat) (i : Nat) : Prop where
  tr : tro s.1 = s.2
  lt : s.2 < 5
  len : s.1.length ≤ 2 * i
  bits : Bits s.1
theorem stS_ok {s : List Int × Nat} {i : Nat} {b : Int} (h : StOk s i) (hb : isB b) : StOk (stS s b) (i + 1) := by
  have h1 : tro (s.1 ++ [b]) = if b = 1 then s.2 + 1 else 0 := by rw [tro_snoc, h.tr]
  have hl := h.len
  unfold stS
  by_cases h5 : (if b = 1 then s.2 + 1 else 0) = 5
  · rw [if_pos h5]
    refine ⟨by show tro (s.1 ++ [b] ++ [0]) = 0; rw [tro_snoc]; rfl, by show 0 < 5; decide, ?_, bits_app (bits_app h.bits (bits_one hb)) (bits_one (.inl rfl))⟩
    show (s.1 ++ [b] ++ [0]).length ≤ _
    rw [List.length_append, List.length_append]
    show s.1.length + 1 + 1 ≤ _
    omega
  · rw [if_neg h5]
    refine ⟨h1, ?_, ?_, bits_app h.bits (bits_one hb)⟩
    · have := h.lt
      show (if b = 1 then s.2 + 1 else 0) < 5
      split at h5 <;> rename_i z <;> simp only [z, if_true, if_false] at h5 ⊢ <;> omega
    · show (s.1 ++ [b]).length ≤ _
      rw [List.length_append]
      show s.1.length + 1 ≤ _
      omega
theorem stR_ok {ns : List Int} (hb : Bits ns) : ∀ i, i ≤ ns.length → StOk (stR (ns.take i)) i
  | 0, _ => ⟨rfl, by show 0 < 5; decide, Nat.le_refl _, bits_nil⟩
  | i + 1, h => by
    have hi : i < ns.length := h
    rw [stR_more (List.getElem?_eq_getElem hi)]
    exact stS_ok (stR_ok hb i (by omega)) (hb _ (List.getElem_mem hi))
theorem stuff_ok {ns : List Int} (hb : Bits ns) : StOk (stR ns) ns.length := by
  have := stR_ok hb ns.length (Nat.le_refl _)
  rwa [List.take_length] at this
/-! the signs of a row -/
def dc (L : List Int) : List Nat := L.map fun z => if z = 1 then 49 else 48
def dig (L : List Int) : Str := ⟨(dc L).toArray⟩
theorem dig_len (L : List Int) : (dig L).length = L.length := by
  show (dc L).toArray.size = _
  rw [List.size_toArray]
  unfold dc
  rw [List.length_map]
theorem dig_app (L M : List Int) : dig L ++ dig M = dig (L ++ M) := by
  apply PySem.Str.ext'
  show (dc L).toArray ++ (dc M).toArray = (dc (L ++ M)).toArray
  unfold dc
  rw [List.map_append]
  simp
theorem ends5 (L : List Int) : Txt.endswith (dig L) "11111" = decide (5 ≤ tro L) := by
  have key : ∀ M : List Int, Txt.endswith (dig M.reverse) "11111" = decide (5 ≤ tro M.reverse) := by
    intro M
    have hle : ∀ M : List Int, M.length < 5 → Txt.endswith (dig M.reverse) "11111" = decide (5 ≤ tro M.reverse) := by
      intro M hM
      have e1 : Txt.endswith (dig M.reverse) "11111" = false := by
        show (decide (0 + 5 ≤ (dig M.reverse).length) && _) = false
        rw [dig_len, List.length_reverse, decide_eq_false (by omega), Bool.false_and]
      have e2 : tro M.reverse < 5 := by
        unfold tro
        rw [List.reverse_reverse]
        exact Nat.lt_of_le_of_lt (List.takeWhile_sublist _).length_le hM
      rw [e1, decide_eq_false (by omega)]
    match M with
    | [] => exact hle _ (by decide)
    | [_] => exact hle _ (by show 1 < 5; decide)
    | [_, _] => exact hle _ (by show 2 < 5; decide)
    | [_, _, _] => exact hle _ (by show 3 < 5; decide)
    | [_, _, _, _] => exact hle _ (by show 4 < 5; decide)
    | a :: b :: c :: d :: e :: r =>
      have ht : tro (a :: b :: c :: d :: e :: r).reverse = ((a :: b :: c :: d :: e :: r).takeWhile (fun z => decide (z = 1))).length := by
        unfold tro
        rw [List.reverse_reverse]
      have hr : (a :: b :: c :: d :: e :: r).reverse = r.reverse ++ [e, d, c, b, a] := by simp
      have hx : Txt.endswith (dig (a :: b :: c :: d :: e :: r).reverse) "11111" = (dc [e, d, c, b, a] == [49, 49, 49, 49, 49]) := by
        show (decide (0 + 5 ≤ (dig (a :: b :: c :: d :: e :: r).reverse).length) && Builtin.Str.subAt (dig (a :: b :: c :: d :: e :: r).reverse) "11111" ((dig (a :: b :: c :: d :: e :: r).reverse).length - 5)) = _
        rw [dig_len, List.length_reverse, decide_eq_true (by show 0 + 5 ≤ r.length + 1 + 1 + 1 + 1 + 1; omega), Bool.true_and, PySem.StrLaws.subAt_eq]
        have e1 : (dig (a :: b :: c :: d :: e :: r).reverse).cps.toList = dc r.reverse ++ dc [e, d, c, b, a] := by
          show dc _ = _
          rw [hr]
          unfold dc
          rw [List.map_append]
        have e2 : (a :: b :: c :: d :: e :: r).length - 5 = (dc r.reverse).length := by
          unfold dc
          rw [List.length_map, List.length_reverse]
          show r.length + 1 + 1 + 1 + 1 + 1 - 5 = _
          omega
        rw [e1, e2, List.drop_left]
        rfl
      rw [hx, ht]
      by_cases ha : a = 1
      · by_cases hb : b = 1
        · by_cases hc : c = 1
          · by_cases hd : d = 1
            · by_cases he : e = 1
              · subst ha hb hc hd he
                simp [dc]
              · simp [dc, ha, hb, hc, hd, he]
            · simp [dc, ha, hb, hc, hd]
          · simp [dc, ha, hb, hc]
        · simp [dc, ha, hb]
      · simp [dc, ha]
  have := key L.reverse
  rwa [List.reverse_reverse] at this
theorem for_strK {x : Str} {g : TG} {tb : TS} {D : Ends} {σ : L2.St} {H : Hp} (Pv : Nat → L2.St → Hp → Prop) (p0 : Pv 0 σ H)
    (ps : ∀ i c σ H, x.cps[i]? = some c → Pv i σ H → g (.str ⟨#[c]⟩) σ H fun σ2 H2 => tb { D with nx := Pv (i + 1), ct := Pv (i + 1), bk := D.nx } σ2 H2) (pd : ∀ σ H, Pv x.cps.size σ H → D.nx σ H) :
    ∃ W : Nat → Nat → L2.St → Hp → Prop, (∃ m, W 0 m σ H) ∧ ∀ i m σ H, W i m σ H →
      ((Its x).stop i H ∧ D.nx σ H) ∨ ((Its x).go i H ∧ ∃ N : L2.St → Hp → Prop, (∀ σ' H', N σ' H' → ∃ m', m' < m ∧ W (i + 1) m' σ' H') ∧ ∀ y H', (Its x).yld i H y H' → g y σ H' fun σ2 H2 => tb { D with nx := N, ct := N, bk := D.nx } σ2 H2) := by
  refine ⟨fun i m σ H => m = x.cps.size - i ∧ i ≤ x.cps.size ∧ Pv i σ H, ⟨_, rfl, Nat.zero_le _, p0⟩, fun i m σ H hw => ?_⟩
  obtain ⟨rfl, hi, p⟩ := hw
  by_cases hlt : i < x.cps.size
  · refine .inr ⟨hlt, Pv (i + 1), fun σ' H' p' => ⟨x.cps.size - (i + 1), by omega, rfl, hlt, p'⟩, fun y H' hy => ?_⟩
    obtain ⟨rfl, c, hc, rfl⟩ := hy
    exact ps i c σ _ hc p
  · obtain rfl : i = x.cps.size := by omega
    exact .inl ⟨Nat.le_refl _, pd σ H p⟩
theorem lc_strK {x : Str} {g : TG} {tt : TT} {te : TE} {vs : List Nat} {σ : L2.St} {H1 : Hp} {D : Addr} {Qd : Hp → Prop} (Pv : Nat → Hp → Prop) (p0 : Pv 0 (upd H1 D (.lst [])))
    (ps : ∀ i c H, x.cps[i]? = some c → Pv i H → g (.str ⟨#[c]⟩) (wipe σ vs) H fun σ2 H2 => wipe σ2 vs = wipe σ vs ∧ tt σ2 H2 fun b H3 =>
      if b = true then te σ2 H3 fun y H4 => ∃ acc, H4 D = some (.lst acc) ∧ acc.length < sizeLine ∧ Pv (i + 1) (upd H4 D (.lst (acc ++ [y]))) else Pv (i + 1) H3) (pd : ∀ H, Pv x.cps.size H → Qd H) :
    ∃ W : Nat → Nat → Hp → Prop, (∃ m, W 0 m (upd H1 D (.lst []))) ∧ ∀ i m H, W i m H →
      ((Its x).stop i H ∧ Qd H) ∨ ((Its x).go i H ∧ ∃ Nx : Hp → Prop, (∀ H', Nx H' → ∃ m', m' < m ∧ W (i + 1) m' H') ∧ ∀ y H', (Its x).yld i H y H' → g y (wipe σ vs) H' fun σ2 H2 => wipe σ2 vs = wipe σ vs ∧ tt σ2 H2 fun b H3 =>
        if b = true then te σ2 H3 fun y H4 => ∃ acc, H4 D = some (.lst acc) ∧ acc.length < sizeLine ∧ Nx (upd H4 D (.lst (acc ++ [y]))) else Nx H3) := by
  refine ⟨fun i m H => m = x.cps.size - i ∧ i ≤ x.cps.size ∧ Pv i H, ⟨_, rfl, Nat.zero_le _, p0⟩, fun i m H hw => ?_⟩
  obtain ⟨rfl, hi, p⟩ := hw
  by_cases hlt : i < x.cps.size
  · refine .inr ⟨hlt, Pv (i + 1), fun H' p' => ⟨x.cps.size - (i + 1), by omega, rfl, hlt, p'⟩, fun y H' hy => ?_⟩
    obtain ⟨rfl, c, hc, rfl⟩ := hy
    exact ps i c _ hc p
  · obtain rfl : i = x.cps.size := by omega
    exact .inl ⟨Nat.le_refl _, pd H p⟩
theorem joinL_nil : ∀ l : List (List Nat), TL.joinL [] l = l.flatten
  | [] => rfl
  | [p] => by
    show p = p ++ []
    rw [List.append_nil]
  | p :: q :: r => by
    show p ++ ([] ++ TL.joinL [] (q :: r)) = p ++ (q :: r).flatten
    rw [joinL_nil (q :: r)]
    rfl
def strI (z : Int) : Str := Str.ofString (toString z)
theorem join_dig {ns : List Int} (hb : Bits ns) : Txt.join "" (ns.map strI) = dig ns := by
  apply TL.ext_tl
  rw [TL.join_eq, TL.tl_join]
  show TL.joinL [] ((ns.map strI).map TL.tl) = dc ns
  rw [joinL_nil]
  induction ns with
  | nil => rfl
  | cons b r ih =>
    have h := bits_cons hb
    show TL.tl (strI b) ++ ((r.map strI).map TL.tl).flatten = (if b = 1 then 49 else 48) :: dc r
    rw [ih h.2]
    rcases h.1 with rfl | rfl
    · rfl
    · rfl
theorem sc_stuffed : FnScope ["bits", "row", "ones", "bit"] ["bits"] (defScope s_stuffed) := ⟨rfl, rfl, rfl, by decide +kernel, rfl, by decide +kernel, by decide +kernel⟩
def spStX (K : PySem.W.Frag) (cB : Addr) : Sp := fun vs H Q E => ∃ (a : Addr) (ns : List Int), vs = [.ref a] ∧ SqL K H a (ns.map V.int) ∧ ns.length ≤ 10000 ∧
  (Bits ns → ∀ (H' : Hp) (p : Addr), Same H H' → H p = none → H' p = some (.lst ((stuffL ns).map V.int)) → Q (.ref p) H') ∧
  (∀ (i : Nat) (z : Int), ns[i]? = some z → ¬ isB z → Bits (ns.take i) → ∀ H' d, Same H H' → H d = none → H' d = some (.xd [(("at" : Str), .int (i : Int)), (("word" : Str), .str "BadBit")]) → E (.ref cB) (some d) H')
theorem ok_stuffed {f cB : Addr} {fd : FuncData} {k : Nat} {tM : Tok} (F : Fun K "stuffed" "stuffed" s_stuffed f fd) (g_MOST_ONES : mg "MOST_ONES" = some (.int 5 tM)) (c_check_bits : CalX P w K mg base k "check_bits" ["bits"] (spCheckX K cB)) :
    FnOk P w K mg base (L2.CX P w) (k + 1) f fd ["bits"] (spStX K cB) := by
  have sc := sc_stuffed
  refine F.okX sc (fun vs H Q E h => ?_) (fun cdv A outer s H vs Q E hr h => ?_)
  · obtain ⟨a, ns, rfl, _⟩ := h
    rfl
  · obtain ⟨a, ns, rfl, hS, hl, q, qb⟩ := h
    refine ⟨_, (pss_cons (ps_expr (pe_callP c_check_bits hr (passes_call (takes_of rfl rfl rfl rfl) (fun _ _ _ _ h => h)) (by rfl) (pa_cons (pv 0) pa_nil)))
 (pss_cons (ps_set (i := 1) sc.nd rfl (.inl rfl) (pe_lst pa_nil))
 (pss_cons (ps_set (i := 2) sc.nd rfl (.inl rfl) pe_int)
 (pss_cons (ps_for (passes_of rfl) rfl (pi_listK K rfl (pv 0)) (pg_name (i := 3) sc.nd rfl (.inl rfl))
  (pss_cons (ps_expr (pe_bmK K rfl PySem.F.plainAttrs_list PySem.F.slot_list_append PySem.F.type_list_append mt_append (pv 1) (pa_cons (pv 3) pa_nil)))
 (pss_cons (ps_set (i := 2) sc.nd rfl (.inl rfl) (pe_ifExp (pt_cmpR op_eq (pv 3) pe_int (nomark _)) (pe_op op_add (pv 2) pe_int) pe_int))
 (pss_one (ps_if (pt_cmpR op_eq (pv 2) (pe_glob (v := .int 5) (by rfl) g_MOST_ONES ⟨_, rfl⟩) (nomark _))
  (pss_cons (ps_expr (pe_bmK K rfl PySem.F.plainAttrs_list PySem.F.slot_list_append PySem.F.type_list_append mt_append (pv 1) (pa_cons pe_int pa_nil)))
 (pss_one (ps_set (i := 2) sc.nd rfl (.inl rfl) pe_int)))
  pss_nil)))))
 (pss_one (ps_ret (pv 1))))))), ?_⟩
    refine ⟨_, rfl, a, ns, rfl, hS, by omega, fun hB H1 s1 => ?_, qb⟩
    refine ⟨Nat.zero_le _, fun o no => ?_⟩
    have n0 : H o = none := s1.free no
    have s2 := s1.trans (same_upd (o := .lst []) no)
    refine ⟨_, rfl, a, rfl, ⟨_, s2.seq hS⟩, for_list (K := K) (a := a) (xs := ns.map V.int) (fun i σ H' => ∃ y3, σ = [some (.ref a), some (.ref o), some (.int ((stR (ns.take i)).2 : Int)), y3] ∧ Same H H' ∧ H' o = some (.lst ((stR (ns.take i)).1.map V.int)))
      ⟨none, rfl, s2, upd_same⟩ (fun i σ H' _ h => ?_) ?_ ?_⟩
    · obtain ⟨_, _, sm, _⟩ := h
      exact sm.seq hS
    · rintro i x σ H' hx ⟨y3, rfl, sm, eo⟩
      obtain ⟨z, hz, rfl⟩ := getI hx
      have hil : i < ns.length := (List.getElem?_eq_some_iff.mp hz).1
      have ok := stR_ok hB i (by omega)
      have more := stR_more hz
      generalize stR (ns.take i) = st at ok more eo ⊢
      have hlen := ok.len
      refine ⟨_, rfl, .inl ⟨rfl, _, SqL.of eo⟩, _, rfl, o, _, _, rfl, rfl, eo, ?_, ?_⟩
      · rw [List.length_map]
        exact sz4l (by omega)
      have em : (st.1.map V.int ++ [V.int z]) = (st.1 ++ [z]).map V.int := by rw [List.map_append]; rfl
      rw [em]
      have sm2 : Same H (upd H' o (.lst ((st.1 ++ [z]).map V.int))) := same_mut sm n0
      have fin : ∀ (on : Nat), on = (if z = 1 then st.2 + 1 else 0) → 
          tIfS (tTest (tOp rEq (tVar 2) (tC (.int 5)))) (tSeq (tDrop (tBM K "list" rAppend (tVar 1) (tCons (tC (.int 0)) tNil))) (tAsg (tC (.int 0)) (gName 2))) tNext
            ⟨fun σ H' => ∃ y3, σ = [some (.ref a), some (.ref o), some (.int ((stR (ns.take (i + 1))).2 : Int)), y3] ∧ Same H H' ∧ H' o = some (.lst ((stR (ns.take (i + 1))).1.map V.int)), Q, fun _ _ => False, fun _ _ => False⟩
            [some (.ref a), some (.ref o), some (.int (on : Int)), some (.int z)] (upd H' o (.lst ((st.1 ++ [z]).map V.int))) := by
        intro on hon
        refine ⟨_, rfl, rfl, _, rfl, ite2 (fun e => ?_) (fun e => ?_)⟩
        · have h5 : (if z = 1 then st.2 + 1 else 0) = 5 := by
            have := V.int.inj (of_decide_eq_true e)
            omega
          refine ⟨_, rfl, .inl ⟨rfl, _, SqL.of upd_same⟩, o, _, _, rfl, rfl, upd_same, ?_, ?_⟩
          · rw [List.length_map, List.length_append]
            exact sz4l (by show st.1.length + 1 < 100000; omega)
          rw [upd_upd]
          refine ⟨some (.int z), ?_, same_mut sm n0, ?_⟩
          · rw [more]
            unfold stS
            rw [if_pos h5]
            rfl
          · rw [upd_same, more]
            unfold stS
            rw [if_pos h5]
            show _ = some (HO.lst ((st.1 ++ [z] ++ [0]).map V.int))
            rw [List.map_append (l₁ := st.1 ++ [z])]
            rfl
        · have h5 : ¬ (if z = 1 then st.2 + 1 else 0) = 5 := fun y => e (decide_eq_true (by rw [hon, y]; rfl))
          refine ⟨some (.int z), ?_, sm2, ?_⟩
          · rw [more]
            unfold stS
            rw [if_neg h5, hon]
          · rw [upd_same, more]
            unfold stS
            rw [if_neg h5]
      refine ⟨_, rfl, rfl, _, rfl, ite2 (fun e1 => ?_) (fun e1 => ?_)⟩
      · have z1 : z = 1 := V.int.inj (of_decide_eq_true e1)
        exact ⟨_, rfl, _, _, rfl, rfl, fin (st.2 + 1) (by rw [if_pos z1])⟩
      · have z1 : ¬ z = 1 := fun y => e1 (decide_eq_true (congrArg V.int y))
        exact fin 0 (by rw [if_neg z1])
    · rintro σ H' ⟨y3, rfl, sm, eo⟩
      rw [List.length_map, List.take_length] at eo
      exact ⟨_, rfl, q hB H' o sm n0 eo⟩
theorem sc_moved_on : FnScope ["cells", "bit", "front", "moved", "place"] ["cells", "bit"] (defScope s_moved_on) := ⟨rfl, rfl, rfl, by decide +kernel, rfl, by decide +kernel, by decide +kernel⟩
/-- the register one bit on -/
def spMoved (K : PySem.W.Frag) : Sp := fun vs H Q _ => ∃ (a : Addr) (c : Nat) (b : Int), vs = [.ref a, .int b] ∧ c < 65536 ∧ (b = 0 ∨ b = 1) ∧ SqL K H a ((wr 16 (c : Int)).map V.int) ∧ ∀ (H' : Hp) (p : Addr), Same H H' → H p = none → H' p = some (.lst ((wr 16 (stepR c b : Nat)).map V.int)) → Q (.ref p) H'
theorem ok_moved_on {f a_TURNED : Addr} {fd : FuncData} {k : Nat} (F : Fun K "moved_on" "moved_on" s_moved_on f fd) (g_TURNED : mg "TURNED" = some (.ref a_TURNED)) (hT : ∀ H, SqT K H a_TURNED [.int 3, .int 10, .int 15]) : FnOk P w K mg base CX0 (k + 1) f fd ["cells", "bit"] (spMoved K) := by
  have sc := sc_moved_on
  refine F.ok sc (fun vs H Q E h => ?_) (fun cdv A outer s H vs Q E hr h => ?_)
  · obtain ⟨a, c, b, rfl, _⟩ := h
    rfl
  · obtain ⟨a, c, b, rfl, hc, hb, hS, q⟩ := h
    refine ⟨_, (pss_cons (ps_set (i := 2) sc.nd rfl (.inl rfl) (pe_op op_xor (pe_ix (ix_listK K rfl) (pv 0) pe_int (fun _ _ => rfl)) (pv 1)))
 (pss_cons (ps_set (i := 3) sc.nd rfl (.inl rfl) (pe_op op_cat (pe_slice (sl_listK K rfl) (pv 0) (po_some pe_int) po_none) (pe_lst (pa_cons pe_int pa_nil))))
 (pss_cons (ps_if (pt_cmpR op_eq (pv 2) pe_int (nomark _))
  (pss_one (ps_for PassesOwn.never rfl (pi_tupK K rfl (pe_glob (v := .ref a_TURNED) (by rfl) g_TURNED rfl)) (pg_name (i := 4) sc.nd rfl (.inl rfl))
  (pss_one (ps_asg (pe_op op_sub pe_int (pe_ix (ix_listK K rfl) (pv 3) (pv 4) (fun _ _ => rfl))) (pg_sub (pv 3) (pv 4) set_list)))))
  pss_nil)
 (pss_one (ps_ret (pv 3)))))), ?_⟩
    have h0 : atI ((wr 16 (c : Int)).map V.int) 0 = some (.int ((c / 32768 : Nat) : Int)) := by
      have e : ((c : Int) / 2 ^ 15) % 2 = ((c / 32768 : Nat) : Int) := by omega
      show some (V.int (((c : Int) / 2 ^ 15) % 2)) = _
      rw [e]
    have hcut : cutV ((wr 16 (c : Int)).map V.int) (some 1) none = ((wr 16 (c : Int)).drop 1).map V.int := rfl
    have hmap : cutV ((wr 16 (c : Int)).map V.int) (some 1) none ++ [V.int 0] = (wr 16 ((c * 2 % 65536 : Nat) : Int)).map V.int := by
      rw [hcut, wr_shift, List.map_append]
      rfl
    refine ⟨_, rfl, a, _, 0, _, rfl, rfl, hS, h0, _, rfl, _, _, rfl, rfl, ?_⟩
    refine ⟨_, rfl, 1, rfl, a, _, rfl, hS, fun p1 n1 => ?_⟩
    have s1 : Same H (upd H p1 (.lst (cutV ((wr 16 (c : Int)).map V.int) (some 1) none))) := same_upd n1
    refine ⟨(by show 1 ≤ sizeLine; decide), fun p2 n2 => ?_⟩
    have s2 := s1.trans (same_upd (o := .lst [.int 0]) n2)
    have n21 : p1 ≠ p2 := ne_of_none upd_same n2
    refine ⟨p1, p2, _, _, rfl, rfl, (by rw [upd_ne n21]; exact upd_same), upd_same, ?_, fun p3 n3 => ?_⟩
    · rw [hcut, List.length_map, List.length_drop, wr_len]
      decide
    rw [hmap]
    have s3 := s2.trans (same_upd (o := .lst ((wr 16 ((c * 2 % 65536 : Nat) : Int)).map V.int)) n3)
    have n03 : H p3 = none := s2.free n3
    refine name_by ?_
    dsimp only
    refine if_by (J := fun σ1 H1 => ∃ y2 y4, σ1 = [some (.ref a), some (.int b), y2, some (.ref p3), y4] ∧ Same H H1 ∧ H1 p3 = some (.lst ((wr 16 (stepR c b : Nat)).map V.int))) ?_ (fun rest => ?_)
    · rintro σ1 H1 ⟨y2, y4, rfl, sm, e3⟩
      exact ⟨_, rfl, q H1 p3 sm n03 e3⟩
    · have hx : c / 32768 = 0 ∨ c / 32768 = 1 := by omega
      refine ⟨_, rfl, rfl, _, rfl, ite2 (fun e => ?_) (fun e => ?_)⟩
      · have hne : ¬ ((c / 32768 : Nat) : Int) = b := by
          have e := V.int.inj (of_decide_eq_true e)
          rcases hx with hx | hx <;> rcases hb with rfl | rfl <;> rw [hx] at e ⊢ <;> revert e <;> decide
        have est : stepR c b = (c * 2 % 65536) ^^^ 4129 := if_neg hne
        have efl : (wr 16 (stepR c b : Nat)) = fl (fl (fl (wr 16 ((c * 2 % 65536 : Nat) : Int)) 3) 10) 15 := by rw [est]; exact wr_flip _
        generalize hM : wr 16 ((c * 2 % 65536 : Nat) : Int) = M at efl s3 ⊢
        have lM : M.length = 16 := by rw [← hM]; exact wr_len _ _
        have lfl : ∀ (L : List Int) (j : Nat), (fl L j).length = L.length := fun L j => by unfold fl; exact List.length_set
        refine ⟨a_TURNED, rfl, ⟨_, hT _⟩, for_tup (K := K) (a := a_TURNED) (xs := [.int 3, .int 10, .int 15]) (fun i σ H' => ∃ y2 y4, σ = [some (.ref a), some (.int b), y2, some (.ref p3), y4] ∧ Same H H' ∧ H' p3 = some (.lst ((([3, 10, 15].take i).foldl fl M).map V.int)))
          ⟨_, none, rfl, s3, upd_same⟩ (fun _ _ _ _ _ => hT _) ?_ ?_⟩
        · rintro i x σ H' hi ⟨y2, y4, rfl, sm, e3⟩
          have fin : ∀ (j : Nat) (L : List Int), L.length = 16 → j < 16 → x = .int (j : Int) → H' p3 = some (.lst (L.map V.int)) → (([3, 10, 15].take (i + 1)).foldl fl M) = fl L j →
              ∃ jj : Nat, x = .int (jj : Int) ∧ ∃ v, atI (L.map V.int) (jj : Int) = some (.int v) ∧ ixN (L.map V.int).length (jj : Int) = some jj ∧ (([3, 10, 15].take (i + 1)).foldl fl M).map V.int = (L.map V.int).set jj (.int (1 - v)) := by
            intro j L hL hj hxj e3 en
            have g : L[j]? = some (L.getD j 0) := by
              rw [List.getD_eq_getElem?_getD, List.getElem?_eq_getElem (by omega)]
              rfl
            refine ⟨j, hxj, L.getD j 0, atI_nat (by rw [List.getElem?_map, g]; rfl), ?_, ?_⟩
            · unfold ixN
              rw [List.length_map, hL, if_pos (by omega), if_pos (by omega)]
              simp
            · rw [en]
              unfold fl
              rw [List.map_set]
          obtain ⟨L, e3', jj, rfl, v, ga, gi, en⟩ : ∃ L : List Int, H' p3 = some (.lst (L.map V.int)) ∧ ∃ jj : Nat, x = .int (jj : Int) ∧ ∃ v, atI (L.map V.int) (jj : Int) = some (.int v) ∧ ixN (L.map V.int).length (jj : Int) = some jj ∧ (([3, 10, 15].take (i + 1)).foldl fl M).map V.int = (L.map V.int).set jj (.int (1 - v)) := by
            match i, hi, e3, fin with
            | 0, hi, e3, fin => exact ⟨M, e3, fin 3 M lM (by omega) (Option.some.inj hi).symm e3 rfl⟩
            | 1, hi, e3, fin => exact ⟨fl M 3, e3, fin 10 (fl M 3) (by rw [lfl]; exact lM) (by omega) (Option.some.inj hi).symm e3 rfl⟩
            | 2, hi, e3, fin => exact ⟨fl (fl M 3) 10, e3, fin 15 (fl (fl M 3) 10) (by rw [lfl, lfl]; exact lM) (by omega) (Option.some.inj hi).symm e3 rfl⟩
          refine ⟨_, rfl, _, rfl, p3, _, _, _, rfl, rfl, SqL.of e3', ga, _, _, rfl, rfl, _, rfl, _, rfl, p3, _, _, jj, rfl, rfl, e3', gi, _, _, rfl, same_mut sm n03, ?_⟩
          rw [upd_same, en]
        · rintro σ H' ⟨y2, y4, rfl, sm, e3⟩
          exact rest _ _ ⟨_, _, rfl, sm, by rw [efl]; exact e3⟩
      · have heq : ((c / 32768 : Nat) : Int) = b := by
          have e : ¬ Builtin.bitXor ((c / 32768 : Nat) : Int) b = 1 := fun z => e (decide_eq_true (by rw [← z]))
          rcases hx with hx | hx <;> rcases hb with rfl | rfl <;> rw [hx] at e ⊢ <;> revert e <;> decide
        exact rest _ _ ⟨_, none, rfl, s3, by rw [upd_same, show stepR c b = c * 2 % 65536 from if_pos heq]⟩
theorem sc_seal_of : FnScope ["bits", "cells", "bit"] ["bits"] (defScope s_seal_of) := ⟨rfl, rfl, rfl, by decide +kernel, rfl, by decide +kernel, by decide +kernel⟩
/-- the seal -/
def spSealN (K : PySem.W.Frag) : Sp := fun vs H Q _ => ∃ (a : Addr) (ns : List Int), vs = [.ref a] ∧ SqL K H a (ns.map V.int) ∧ Bits ns ∧ ns.length ≤ 10000 ∧ ∀ (H' : Hp) (p : Addr), Same H H' → H p = none → H' p = some (.lst ((sealL ns).map V.int)) → Q (.ref p) H'
theorem ok_seal_of {f cB : Addr} {fd : FuncData} {k : Nat} {tS : Tok} (F : Fun K "seal_of" "seal_of" s_seal_of f fd) (g_SEAL : mg "SEAL" = some (.int 16 tS)) (c_check_bits : CalX P w K mg base k "check_bits" ["bits"] (spCheckX K cB)) (c_moved_on : Cal P w K mg base k "moved_on" ["cells", "bit"] (spMoved K)) :
    FnOk P w K mg base CX0 (k + 1) f fd ["bits"] (spSealN K) := by
  have sc := sc_seal_of
  refine F.ok sc (fun vs H Q E h => ?_) (fun cdv A outer s H vs Q E hr h => ?_)
  · obtain ⟨a, ns, rfl, _⟩ := h
    rfl
  · obtain ⟨a, ns, rfl, hS, hB, hl, q⟩ := h
    refine ⟨_, (pss_cons (ps_expr (pe_callF c_check_bits hr (by rfl) (pa_cons (pv 0) pa_nil)))
 (pss_cons (ps_set (i := 1) sc.nd rfl (.inl rfl) (pe_op op_rep (pe_lst (pa_cons pe_int pa_nil)) (pe_glob (v := .int 16) (by rfl) g_SEAL ⟨_, rfl⟩)))
 (pss_cons (ps_for PassesOwn.never rfl (pi_listK K rfl (pv 0)) (pg_name (i := 2) sc.nd rfl (.inl rfl))
  (pss_one (ps_set (i := 1) sc.nd rfl (.inl rfl) (pe_callC c_moved_on hr (by rfl) (pa_cons (pv 1) (pa_cons (pv 2) pa_nil))))))
 (pss_one (ps_ret (pv 1)))))), ?_⟩
    refine ⟨_, rfl, a, ns, rfl, hS, by omega, (fun _ H1 s1 => ?_), (fun i z hz nb => (nb (hB z (List.mem_of_getElem? hz))).elim)⟩
    refine ⟨(by show 1 ≤ sizeLine; decide), fun p1 n1 => ?_⟩
    refine ⟨p1, 16, _, rfl, rfl, upd_same, by decide, by decide, by decide, fun p2 n2 => ?_⟩
    have s2 := s1.trans (same_upd (o := .lst [.int 1]) n1)
    have e0 : (List.replicate (Int.toNat 16) [V.int 1]).flatten = (sealL (ns.take 0)).map V.int := by
      show _ = (wr 16 65535).map V.int
      rfl
    rw [e0]
    have s3 := s2.trans (same_upd (o := .lst ((sealL (ns.take 0)).map V.int)) n2)
    refine ⟨_, rfl, a, rfl, ⟨_, s3.seq hS⟩, for_list (K := K) (a := a) (xs := ns.map V.int) (fun i σ H' => ∃ (p : Addr) (y : Option V), σ = [some (.ref a), some (.ref p), y] ∧ Same H H' ∧ H p = none ∧ H' p = some (.lst ((sealL (ns.take i)).map V.int)))
      ⟨p2, none, rfl, s3, s2.free n2, upd_same⟩ (fun i σ H' _ h => ?_) ?_ ?_⟩
    · obtain ⟨p, y, _, sm, _⟩ := h
      exact sm.seq hS
    · rintro i y σ H' hi ⟨p, y2, rfl, sm, np, ep⟩
      obtain ⟨z, hz, rfl⟩ := getI hi
      refine ⟨_, rfl, _, rfl, p, regs (ns.take i), z, rfl, regs_lt _, hB z (List.mem_of_getElem? hz), SqL.of ep, fun H2 p' s4 n4 e4 => ?_⟩
      refine ⟨p', _, rfl, sm.trans s4, sm.free n4, ?_⟩
      rw [e4]
      unfold sealL
      rw [regs_more hz]
    · rintro σ H' ⟨p, y, rfl, sm, np, ep⟩
      rw [List.length_map, List.take_length] at ep
      exact ⟨_, rfl, q H' p sm np ep⟩
theorem sc_sealed : FnScope ["bits"] ["bits"] (defScope s_sealed) := ⟨rfl, rfl, rfl, by decide +kernel, rfl, by decide +kernel, by decide +kernel⟩
/-- the row and its seal -/
def spSealed (K : PySem.W.Frag) : Sp := fun vs H Q _ => ∃ (a : Addr) (ns : List Int), vs = [.ref a] ∧ SqL K H a (ns.map V.int) ∧ Bits ns ∧ ns.length ≤ 10000 ∧ ∀ (H' : Hp) (p : Addr), Same H H' → H p = none → H' p = some (.lst ((ns ++ sealL ns).map V.int)) → Q (.ref p) H'
theorem ok_sealed {f : Addr} {fd : FuncData} {k : Nat} (F : Fun K "sealed" "sealed" s_sealed f fd) (n_list : mg "list" = none) (c_seal_of : Cal P w K mg base k "seal_of" ["bits"] (spSealN K)) :
    FnOk P w K mg base CX0 (k + 1) f fd ["bits"] (spSealed K) := by
  have sc := sc_sealed
  refine F.ok sc (fun vs H Q E h => ?_) (fun cdv A outer s H vs Q E hr h => ?_)
  · obtain ⟨a, ns, rfl, _⟩ := h
    rfl
  · obtain ⟨a, ns, rfl, hS, hB, hl, q⟩ := h
    refine ⟨_, (pss_one (ps_ret (pe_op op_cat (pe_callTy (call_listK K rfl) (by rfl) n_list (by decide +kernel) (pa_cons (pv 0) pa_nil)) (pe_callC c_seal_of hr (by rfl) (pa_cons (pv 0) pa_nil))))), ?_⟩
    refine ⟨_, rfl, a, _, rfl, .inl hS, fun p1 n1 => ?_⟩
    have s1 : Same H (upd H p1 (.lst (ns.map V.int))) := same_upd n1
    refine ⟨_, rfl, a, ns, rfl, s1.seq hS, hB, hl, fun H2 p2 s2 n2 e2 => ?_⟩
    refine ⟨p1, p2, _, _, rfl, rfl, s2 _ _ upd_same, e2, ?_, fun p3 n3 => ?_⟩
    · rw [List.length_map, List.length_map, seal_len]
      exact sz4 (by omega)
    · rw [← List.map_append]
      exact q _ p3 ((s1.trans s2).trans (same_upd n3)) ((s1.trans s2).free n3) upd_same
def markL : List Int := [0, 1, 1, 1, 1, 1, 1, 0]
def frameL (ns : List Int) : List Int := markL ++ stuffL (ns ++ sealL ns) ++ markL
theorem frame_bits {ns : List Int} (h : Bits ns) : Bits (ns ++ sealL ns) := bits_app h (seal_bits ns)
/-! ### unstuffing -/
def ust : List Int → Nat → List Int → Nat → Nat ⊕ List Int
  | [], i, row, ones => if ones = 5 then .inl i else .inr row
  | b :: r, i, row, ones => if ones < 5 then ust r (i + 1) (row ++ [b]) (if b = 1 then ones + 1 else 0) else if b = 0 then ust r (i + 1) row 0 else .inl i
def U (ns : List Int) : Nat ⊕ List Int := ust ns 0 [] 0
theorem drop_at {α : Type} {l : List α} {i : Nat} {x : α} (h : l[i]? = some x) : l.drop i = x :: l.drop (i + 1) := by
  obtain ⟨hl, e⟩ := List.getElem?_eq_some_iff.mp h
  rw [List.drop_eq_getElem_cons hl, e]
theorem ust_le : ∀ (bs : List Int) {i : Nat} {row : List Int} {ones n : Nat}, ust bs i row ones = .inl n → n ≤ i + bs.length
  | [], i, row, ones, n, h => by
    have h : (if ones = 5 then Sum.inl i else Sum.inr row : Nat ⊕ List Int) = .inl n := h
    split at h
    · cases h
      exact Nat.le_refl _
    · cases h
  | b :: r, i, row, ones, n, h => by
    have h : (if ones < 5 then ust r (i + 1) (row ++ [b]) (if b = 1 then ones + 1 else 0) else if b = 0 then ust r (i + 1) row 0 else .inl i : Nat ⊕ List Int) = .inl n := h
    rw [List.length_cons]
    split at h
    · have := ust_le r h
      omega
    · split at h
      · have := ust_le r h
        omega
      · cases h
        omega
theorem sc_unstuffed : FnScope ["bits", "row", "ones", "at", "bit"] ["bits"] (defScope s_unstuffed) := ⟨rfl, rfl, rfl, by decide +kernel, rfl, by decide +kernel, by decide +kernel⟩
def spUnX (K : PySem.W.Frag) (cB cF : Addr) : Sp := fun vs H Q E => ∃ (a : Addr) (ns : List Int), vs = [.ref a] ∧ SqL K H a (ns.map V.int) ∧ ns.length ≤ 10000 ∧
  (Bits ns → ∀ row, U ns = .inr row → ∀ (H' : Hp) (p : Addr), Same H H' → H p = none → H' p = some (.lst (row.map V.int)) → Q (.ref p) H') ∧
  (Bits ns → ∀ i, U ns = .inl i → ∀ H' d, Same H H' → H d = none → H' d = some (.xd [(("at" : Str), .int (i : Int)), (("word" : Str), .str "BadFrame")]) → E (.ref cF) (some d) H') ∧
  (∀ (i : Nat) (z : Int), ns[i]? = some z → ¬ isB z → Bits (ns.take i) → ∀ H' d, Same H H' → H d = none → H' d = some (.xd [(("at" : Str), .int (i : Int)), (("word" : Str), .str "BadBit")]) → E (.ref cB) (some d) H')
theorem ok_unstuffed {f cB cF : Addr} {fd : FuncData} {k : Nat} {tM : Tok} (F : Fun K "unstuffed" "unstuffed" s_unstuffed f fd) (n_enumerate : mg "enumerate" = none) (n_len : mg "len" = none) (g_MOST_ONES : mg "MOST_ONES" = some (.int 5 tM)) (x_BadFrame : XcOk P w K mg base k "BadFrame" cF (spIni K cF "BadFrame" "at"))
    (c_check_bits : CalX P w K mg base (k + 1) "check_bits" ["bits"] (spCheckX K cB)) : FnOk P w K mg base (L2.CX P w) (k + 2) f fd ["bits"] (spUnX K cB cF) := by
  have sc := sc_unstuffed
  refine F.okX sc (fun vs H Q E h => ?_) (fun cdv A outer s H vs Q E hr h => ?_)
  · obtain ⟨a, ns, rfl, _⟩ := h
    rfl
  · obtain ⟨a, ns, rfl, hS, hl, q, qf, qb⟩ := h
    refine ⟨_, (pss_cons (ps_expr (pe_callP c_check_bits hr (passes_call (takes_of rfl rfl rfl rfl) (fun _ _ _ _ h => h)) (by rfl) (pa_cons (pv 0) pa_nil)))
 (pss_cons (ps_set (i := 1) sc.nd rfl (.inl rfl) (pe_lst pa_nil))
 (pss_cons (ps_set (i := 2) sc.nd rfl (.inl rfl) pe_int)
 (pss_cons (ps_for (passes_of rfl) rfl (pi_enum (by rfl) n_enumerate (pa_cons (pv 0) pa_nil)) (pg_tup rfl (pgs_cons (pg_name (i := 3) sc.nd rfl (.inl rfl)) (pgs_cons (pg_name (i := 4) sc.nd rfl (.inl rfl)) pgs_nil)))
  (pss_one (ps_if (pt_cmpR op_lt (pv 2) (pe_glob (v := .int 5) (by rfl) g_MOST_ONES ⟨_, rfl⟩) (nomark _))
  (pss_cons (ps_expr (pe_bmK K rfl PySem.F.plainAttrs_list PySem.F.slot_list_append PySem.F.type_list_append mt_append (pv 1) (pa_cons (pv 4) pa_nil)))
 (pss_one (ps_set (i := 2) sc.nd rfl (.inl rfl) (pe_ifExp (pt_cmpR op_eq (pv 4) pe_int (nomark _)) (pe_op op_add (pv 2) pe_int) pe_int))))
  (pss_one (ps_if (pt_cmpR op_eq (pv 4) pe_int (nomark _))
  (pss_one (ps_set (i := 2) sc.nd rfl (.inl rfl) pe_int))
  (pss_one (ps_raise rfl (takes_of rfl rfl rfl rfl) (pmk_c x_BadFrame hr (by rfl) (pa_cons (pv 3) pa_nil)))))))))
 (pss_cons (ps_if (pt_cmpR op_eq (pv 2) (pe_glob (v := .int 5) (by rfl) g_MOST_ONES ⟨_, rfl⟩) (nomark _))
  (pss_one (ps_raise rfl (takes_of rfl rfl rfl rfl) (pmk_c x_BadFrame hr (by rfl) (pa_cons (pe_callB (call_lenK K rfl) (by rfl) n_len PySem.boot_len (pa_cons (pv 0) pa_nil)) pa_nil))))
  pss_nil)
 (pss_one (ps_ret (pv 1)))))))), ?_⟩
    refine ⟨_, rfl, a, ns, rfl, hS, by omega, fun hB H1 s1 => ?_, qb⟩
    refine ⟨Nat.zero_le _, fun o no => ?_⟩
    have n0 : H o = none := s1.free no
    have s2 := s1.trans (same_upd (o := .lst []) no)
    refine ⟨_, rfl, a, _, rfl, s2.seq hS, for_enumK (xs := ns.map V.int) (fun i σ H' => ∃ (row : List Int) (ones : Nat) (y3 y4 : Option V), σ = [some (.ref a), some (.ref o), some (.int (ones : Int)), y3, y4] ∧ Same H H' ∧ H' o = some (.lst (row.map V.int)) ∧ ones ≤ 5 ∧ row.length ≤ i ∧ ust (ns.drop i) i row ones = U ns)
      ⟨[], 0, none, none, rfl, s2, upd_same, by decide, Nat.le_refl _, rfl⟩ (fun i σ H' _ h => ?_) ?_ ?_⟩
    · obtain ⟨_, _, _, _, _, sm, _⟩ := h
      exact sm.seq hS
    · rintro i x T σ H' hx ⟨row, ones, y3, y4, rfl, sm, eo, ho, hrl, hu⟩ nT
      obtain ⟨z, hz, rfl⟩ := getI hx
      have hil : i < ns.length := (List.getElem?_eq_some_iff.mp hz).1
      have zb := hB z (List.mem_of_getElem? hz)
      rw [drop_at hz] at hu
      have s3 := sm.trans (same_upd (o := .tup [.int (i : Nat), .int z]) nT)
      have eo3 : upd H' T (.tup [.int (i : Nat), .int z]) o = some (.lst (row.map V.int)) := same_upd nT _ _ eo
      refine ⟨T, _, rfl, SqT.of upd_same, rfl, _, _, rfl, _, _, rfl, rfl, ?_⟩
      refine ⟨_, rfl, _, _, rfl, rfl, _, rfl, ite2 (fun e => ?_) (fun e => ?_)⟩
      · have hlt : ones < 5 := by have := of_decide_eq_true e; omega
        have hu : (if ones < 5 then ust (ns.drop (i + 1)) (i + 1) (row ++ [z]) (if z = 1 then ones + 1 else 0) else _) = U ns := hu
        rw [if_pos hlt] at hu
        refine ⟨_, rfl, .inl ⟨rfl, _, SqL.of eo3⟩, _, rfl, o, _, _, rfl, rfl, eo3, ?_, ?_⟩
        · rw [List.length_map]
          exact sz4l (by omega)
        have em : (row.map V.int ++ [V.int z]) = (row ++ [z]).map V.int := by rw [List.map_append]; rfl
        rw [em]
        refine ⟨_, rfl, rfl, _, rfl, ite2 (fun e1 => ?_) (fun e1 => ?_)⟩
        · have z1 : z = 1 := V.int.inj (of_decide_eq_true e1)
          rw [if_pos z1] at hu
          refine ⟨_, rfl, _, _, rfl, rfl, row ++ [z], ones + 1, _, _, rfl, same_mut s3 n0, upd_same, by omega, by rw [List.length_append]; show row.length + 1 ≤ i + 1; omega, hu⟩
        · have z1 : ¬ z = 1 := fun y => e1 (decide_eq_true (congrArg V.int y))
          rw [if_neg z1] at hu
          exact ⟨row ++ [z], 0, _, _, rfl, same_mut s3 n0, upd_same, by omega, by rw [List.length_append]; show row.length + 1 ≤ i + 1; omega, hu⟩
      · have hge : ¬ ones < 5 := fun y => e (decide_eq_true (by omega))
        have hu : (if ones < 5 then _ else if z = 0 then ust (ns.drop (i + 1)) (i + 1) row 0 else .inl i) = U ns := hu
        rw [if_neg hge] at hu
        refine ⟨_, rfl, rfl, _, rfl, ite2 (fun e1 => ?_) (fun e1 => ?_)⟩
        · have z0 : z = 0 := V.int.inj (of_decide_eq_true e1)
          rw [if_pos z0] at hu
          exact ⟨row, 0, _, _, rfl, s3, eo3, by omega, by omega, hu⟩
        · have z0 : ¬ z = 0 := fun y => e1 (decide_eq_true (congrArg V.int y))
          rw [if_neg z0] at hu
          exact ⟨_, rfl, mk_inner (log_le (by omega)) (fun H3 d s4 nd ed => qf hB i hu.symm H3 d (s3.trans s4) (s3.free nd) ed)⟩
    · rintro σ H' ⟨row, ones, y3, y4, rfl, sm, eo, ho, hrl, hu⟩
      rw [List.length_map, List.drop_length] at hu
      have hu : (if ones = 5 then Sum.inl (ns.map V.int).length else .inr row : Nat ⊕ List Int) = U ns := by rw [List.length_map]; exact hu
      refine ⟨_, rfl, rfl, _, rfl, ite2 (fun e => ?_) (fun e => ?_)⟩
      · have h5 : ones = 5 := by have := V.int.inj (of_decide_eq_true e); omega
        rw [if_pos h5] at hu
        refine ⟨_, rfl, a, _, rfl, .inl (sm.seq hS), mk_inner (log_le (by rw [List.length_map]; omega)) (fun H3 d s4 nd ed => qf hB _ hu.symm H3 d (sm.trans s4) (sm.free nd) ed)⟩
      · have h5 : ¬ ones = 5 := fun y => e (decide_eq_true (by rw [y]; rfl))
        rw [if_neg h5] at hu
        exact ⟨_, rfl, q hB row hu.symm H' o sm n0 eo⟩
theorem sc_holds : FnScope ["bits", "end"] ["bits"] (defScope s_holds) := ⟨rfl, rfl, rfl, by decide +kernel, rfl, by decide +kernel, by decide +kernel⟩
def spHolds (K : PySem.W.Frag) : Sp := fun vs H Q _ => ∃ (a : Addr) (ns : List Int), vs = [.ref a] ∧ SqL K H a (ns.map V.int) ∧ Bits ns ∧ ns.length ≤ 10000 ∧ ∀ H', Same H H' → Q (.bl (holdsB ns)) H'
theorem cut_to {ns : List Int} {n : Nat} (h : n ≤ ns.length) : cutV (ns.map V.int) none (some (n : Int)) = (ns.take n).map V.int := by
  unfold cutV
  rw [HT.sIx_none, HT.sIx_nat, List.length_map, Nat.min_eq_left h]
  simp
theorem cut_from {ns : List Int} {n : Nat} (h : n ≤ ns.length) : cutV (ns.map V.int) (some (n : Int)) none = (ns.drop n).map V.int := by
  unfold cutV
  rw [HT.sIx_none, HT.sIx_nat, List.length_map, Nat.min_eq_left h]
  rw [← List.map_drop]
  exact List.take_of_length_le (by simp)
theorem ok_holds {f cB : Addr} {fd : FuncData} {k : Nat} {tS : Tok} (F : Fun K "holds" "holds" s_holds f fd) (n_len : mg "len" = none) (n_list : mg "list" = none) (g_SEAL : mg "SEAL" = some (.int 16 tS)) (c_check_bits : CalX P w K mg base k "check_bits" ["bits"] (spCheckX K cB)) (c_seal_of : Cal P w K mg base k "seal_of" ["bits"] (spSealN K)) :
    FnOk P w K mg base CX0 (k + 1) f fd ["bits"] (spHolds K) := by
  have sc := sc_holds
  refine F.ok sc (fun vs H Q E h => ?_) (fun cdv A outer s H vs Q E hr h => ?_)
  · obtain ⟨a, ns, rfl, _⟩ := h
    rfl
  · obtain ⟨a, ns, rfl, hS, hB, hl, q⟩ := h
    refine ⟨_, (pss_cons (ps_expr (pe_callF c_check_bits hr (by rfl) (pa_cons (pv 0) pa_nil)))
 (pss_cons (ps_if (pt_cmpR op_lt (pe_callB (call_lenK K rfl) (by rfl) n_len PySem.boot_len (pa_cons (pv 0) pa_nil)) (pe_glob (v := .int 16) (by rfl) g_SEAL ⟨_, rfl⟩) (nomark _))
  (pss_one (ps_ret pe_bl))
  pss_nil)
 (pss_cons (ps_set (i := 1) sc.nd rfl (.inl rfl) (pe_op op_sub (pe_callB (call_lenK K rfl) (by rfl) n_len PySem.boot_len (pa_cons (pv 0) pa_nil)) (pe_glob (v := .int 16) (by rfl) g_SEAL ⟨_, rfl⟩)))
 (pss_one (ps_ret (pe_cmpR (op_eqDK K rfl hr.units) (pe_callC c_seal_of hr (by rfl) (pa_cons (pe_slice (sl_listK K rfl) (pv 0) po_none (po_some (pv 1))) pa_nil)) (pe_callTy (call_listK K rfl) (by rfl) n_list (by decide +kernel) (pa_cons (pe_slice (sl_listK K rfl) (pv 0) (po_some (pv 1)) po_none) pa_nil)) (nomark _))))))), ?_⟩
    refine ⟨_, rfl, a, ns, rfl, hS, by omega, (fun _ H1 s1 => ?_), (fun i z hz nb => (nb (hB z (List.mem_of_getElem? hz))).elim)⟩
    refine ⟨_, rfl, a, _, rfl, .inl (s1.seq hS), _, _, rfl, rfl, _, rfl, ite2 (fun e => ?_) (fun e => ?_)⟩
    · have hlt : ns.length < 16 := by
        have := of_decide_eq_true e
        rw [List.length_map] at this
        omega
      have := q H1 s1
      unfold holdsB at this
      rw [decide_eq_false (by omega : ¬ 16 ≤ ns.length)] at this
      exact this
    · have hge : 16 ≤ ns.length := by
        have e : ¬ ((ns.map V.int).length : Int) < 16 := fun z => e (decide_eq_true z)
        rw [List.length_map] at e
        omega
      have en : ((ns.map V.int).length : Int) - 16 = ((ns.length - 16 : Nat) : Int) := by rw [List.length_map]; omega
      refine ⟨_, rfl, a, _, rfl, .inl (s1.seq hS), _, _, rfl, rfl, ?_⟩
      refine ⟨_, rfl, _, rfl, _, rfl, a, _, rfl, s1.seq hS, fun p1 n1 => ?_⟩
      have hcut : cutV (ns.map V.int) none (some ((fun i j => i - j) ((ns.map V.int).length : Int) 16)) = (ns.take (ns.length - 16)).map V.int := by
        show cutV (ns.map V.int) none (some (((ns.map V.int).length : Int) - 16)) = _
        rw [en, cut_to (by omega)]
      have s2 := s1.trans (same_upd (o := .lst (cutV (ns.map V.int) none (some (((ns.map V.int).length : Int) - 16)))) n1)
      refine ⟨p1, ns.take (ns.length - 16), rfl, SqL.of ?_, fun z hz => hB z (List.mem_of_mem_take hz), (by rw [List.length_take]; omega), fun H3 p3 s3 n3 e3 => ?_⟩
      · rw [← hcut]
        exact upd_same
      · have s4 := s2.trans s3
        refine ⟨_, rfl, _, rfl, _, rfl, a, _, rfl, s4.seq hS, fun p4 n4 => ?_⟩
        refine ⟨p4, _, rfl, .inl (SqL.of upd_same), fun p5 n5 => ?_⟩
        have s5 := s4.trans (same_upd (o := .lst (cutV (ns.map V.int) (some (((ns.map V.int).length : Int) - 16)) none)) n4)
        have s6 := s5.trans (same_upd (o := .lst (cutV (ns.map V.int) (some (((ns.map V.int).length : Int) - 16)) none)) n5)
        have hcut2 : cutV (ns.map V.int) (some (((ns.map V.int).length : Int) - 16)) none = (ns.drop (ns.length - 16)).map V.int := by
          rw [en, cut_from (by omega)]
        have e3' : SqL K (upd (upd H3 p4 (.lst (cutV (ns.map V.int) (some (((ns.map V.int).length : Int) - 16)) none))) p5 (.lst (cutV (ns.map V.int) (some (((ns.map V.int).length : Int) - 16)) none))) p3 ((sealL (ns.take (ns.length - 16))).map V.int) := by
          refine SqL.of ?_
          rw [upd_ne (ne_of_none (same_upd n4 _ _ e3) n5), upd_ne (ne_of_none e3 n4)]
          exact e3
        refine ⟨_, _, dp_ints e3', dp_ints (ns := ns.drop (ns.length - 16)) (SqL.of (by rw [← hcut2]; exact upd_same)), shaped_ints _, shaped_ints _, ?_⟩
        rw [eqv_ints]
        have := q _ s6
        unfold holdsB at this
        rw [decide_eq_true hge, Bool.true_and] at this
        exact this
theorem ust_row : ∀ (bs : List Int) {i : Nat} {row r : List Int} {ones : Nat}, ust bs i row ones = .inr r → r.length ≤ row.length + bs.length
  | [], i, row, r, ones, h => by
    have h : (if ones = 5 then Sum.inl i else Sum.inr row : Nat ⊕ List Int) = .inr r := h
    split at h
    · cases h
    · cases h
      exact Nat.le_refl _
  | b :: t, i, row, r, ones, h => by
    have h : (if ones < 5 then ust t (i + 1) (row ++ [b]) (if b = 1 then ones + 1 else 0) else if b = 0 then ust t (i + 1) row 0 else .inl i : Nat ⊕ List Int) = .inr r := h
    rw [List.length_cons]
    split at h
    · have := ust_row t h
      rw [List.length_append] at this
      have e : [b].length = 1 := rfl
      omega
    · split at h
      · have := ust_row t h
        omega
      · cases h
theorem ust_bits : ∀ (bs : List Int) {i : Nat} {row r : List Int} {ones : Nat}, ust bs i row ones = .inr r → Bits bs → Bits row → Bits r
  | [], i, row, r, ones, h, _, hr => by
    have h : (if ones = 5 then Sum.inl i else Sum.inr row : Nat ⊕ List Int) = .inr r := h
    split at h
    · cases h
    · cases h
      exact hr
  | b :: t, i, row, r, ones, h, hb, hr => by
    have h : (if ones < 5 then ust t (i + 1) (row ++ [b]) (if b = 1 then ones + 1 else 0) else if b = 0 then ust t (i + 1) row 0 else .inl i : Nat ⊕ List Int) = .inr r := h
    have hb := bits_cons hb
    split at h
    · exact ust_bits t h hb.2 (bits_app hr (bits_one hb.1))
    · split at h
      · exact ust_bits t h hb.2 hr
      · cases h
/-- the payload of what lies between two marks -/
def judge (ns : List Int) : Option (List Int) := match U ns with
  | .inl _ => none
  | .inr row => if 16 < row.length ∧ row.length < 273 ∧ sealL (row.take (row.length - 16)) = row.drop (row.length - 16) then some (row.take (row.length - 16)) else none
theorem judge_l {ns : List Int} {i : Nat} (h : U ns = .inl i) : judge ns = none := by
  unfold judge
  rw [h]
theorem judge_r {ns row : List Int} (h : U ns = .inr row) : judge ns = if 16 < row.length ∧ row.length < 273 ∧ sealL (row.take (row.length - 16)) = row.drop (row.length - 16) then some (row.take (row.length - 16)) else none := by
  unfold judge
  rw [h]
theorem judge_holds {ns row : List Int} (h : U ns = .inr row) : judge ns = if holdsB row = true ∧ 0 < row.length - 16 ∧ row.length - 16 ≤ 256 then some (row.take (row.length - 16)) else none := by
  rw [judge_r h]
  have hh : holdsB row = true ↔ 16 ≤ row.length ∧ sealL (row.take (row.length - 16)) = row.drop (row.length - 16) := by
    unfold holdsB
    rw [Bool.and_eq_true, decide_eq_true_iff, decide_eq_true_iff]
  by_cases c : 16 < row.length ∧ row.length < 273 ∧ sealL (row.take (row.length - 16)) = row.drop (row.length - 16)
  · rw [if_pos c, if_pos ⟨hh.mpr ⟨by omega, c.2.2⟩, by omega, by omega⟩]
  · rw [if_neg c, if_neg (fun z => c ⟨by omega, by omega, (hh.mp z.1).2⟩)]
theorem sc_payload_between : FnScope ["bits", "row", "payload"] ["bits"] (defScope s_payload_between) := ⟨rfl, rfl, rfl, by decide +kernel, rfl, by decide +kernel, by decide +kernel⟩
def spPb (K : PySem.W.Frag) : Sp := fun vs H Q _ => ∃ (a : Addr) (ns : List Int), vs = [.ref a] ∧ SqL K H a (ns.map V.int) ∧ Bits ns ∧ ns.length ≤ 9000 ∧
  (judge ns = none → ∀ H', Same H H' → Q .non H') ∧ (∀ pl, judge ns = some pl → ∀ (H' : Hp) (p : Addr), Same H H' → H p = none → H' p = some (.lst (pl.map V.int)) → Q (.ref p) H')
theorem ok_payload_between {f cB cF : Addr} {fd : FuncData} {k : Nat} {tS tL : Tok} (F : Fun K "payload_between" "payload_between" s_payload_between f fd) (n_len : mg "len" = none) (g_SEAL : mg "SEAL" = some (.int 16 tS)) (g_LONGEST : mg "LONGEST" = some (.int 256 tL)) (g_BadFrame : mg "BadFrame" = some (.ref cF))
    (ff : PySem.W.exmOne K (.ref cF) (.ref cF) = some true) (c_unstuffed : CalX P w K mg base k "unstuffed" ["bits"] (spUnX K cB cF)) (c_holds : Cal P w K mg base k "holds" ["bits"] (spHolds K)) : FnOk P w K mg base CX0 (k + 1) f fd ["bits"] (spPb K) := by
  have sc := sc_payload_between
  refine F.ok sc (fun vs H Q E h => ?_) (fun cdv A outer s H vs Q E hr h => ?_)
  · obtain ⟨a, ns, rfl, _⟩ := h
    rfl
  · obtain ⟨a, ns, rfl, hS, hB, hl, qn, qs⟩ := h
    refine ⟨_, (pss_cons (ps_try_only rfl rfl ⟨by rfl, by decide, .inl g_BadFrame⟩ LamX.takes0 (fun W pn xe tk _ => (pss_one (ps_set (i := 1) sc.nd rfl (.inl rfl) (pe_callP c_unstuffed hr (passes_call (E := fun cls d H2 => ∀ σ2, W cls d σ2 H2) tk (fun _ _ σ2 _ h => h σ2)) (by rfl) (pa_cons (pv 0) pa_nil))))) (fun a oe cls d pn hz hf => (pss_one (ps_ret pe_non))))
 (pss_cons (ps_if (pt_not (pt_val (pe_callC c_holds hr (by rfl) (pa_cons (pv 1) pa_nil))))
  (pss_one (ps_ret pe_non))
  pss_nil)
 (pss_cons (ps_set (i := 2) sc.nd rfl (.inl rfl) (pe_slice (sl_listK K rfl) (pv 1) po_none (po_some (pe_op op_sub (pe_callB (call_lenK K rfl) (by rfl) n_len PySem.boot_len (pa_cons (pv 1) pa_nil)) (pe_glob (v := .int 16) (by rfl) g_SEAL ⟨_, rfl⟩)))))
 (pss_cons (ps_if (PW.pt (pw_or (pt_cmpR op_eq (pe_callB (call_lenK K rfl) (by rfl) n_len PySem.boot_len (pa_cons (pv 2) pa_nil)) pe_int (nomark _)) (pw_or1 (pt_cmpR op_gt (pe_callB (call_lenK K rfl) (by rfl) n_len PySem.boot_len (pa_cons (pv 2) pa_nil)) (pe_glob (v := .int 256) (by rfl) g_LONGEST ⟨_, rfl⟩) (nomark _)))))
  (pss_one (ps_ret pe_non))
  pss_nil)
 (pss_one (ps_ret (pv 2))))))), ?_⟩
    refine ⟨_, rfl, a, ns, rfl, hS, by omega, (fun _ row hU H1 p1 s1 n1 e1 => ?_), (fun _ i hU H1 d s1 nd ed => ?_), (fun i z hz nb => (nb (hB z (List.mem_of_getElem? hz))).elim)⟩
    · have hrb : Bits row := ust_bits ns hU hB bits_nil
      have hrl : row.length ≤ ns.length := by
        have := ust_row ns hU
        rw [List.length_nil, Nat.zero_add] at this
        exact this
      refine ⟨_, rfl, p1, row, rfl, SqL.of e1, hrb, by omega, fun H2 s2 => ?_⟩
      have s12 := s1.trans s2
      have hj := judge_holds hU
      refine ⟨_, rfl, ite2 (fun e => ?_) (fun e => ?_)⟩
      · have hf : ¬ holdsB row = true := by
          have e : (!holdsB row) = true := e
          intro z
          rw [z] at e
          exact absurd e (by decide)
        rw [if_neg (fun z => hf z.1)] at hj
        exact qn hj _ s12
      · have hf : holdsB row = true := by
          have e : ¬ (!holdsB row) = true := e
          cases z : holdsB row with
          | true => rfl
          | false => rw [z] at e; exact absurd rfl e
        have h16 : 16 ≤ row.length := by
          unfold holdsB at hf
          rw [Bool.and_eq_true] at hf
          exact of_decide_eq_true hf.1
        refine ⟨_, rfl, _, rfl, p1, _, rfl, .inl (SqL.of (s2 _ _ e1)), _, _, rfl, rfl, _, rfl, p1, _, rfl, SqL.of (s2 _ _ e1), fun p3 n3 => ?_⟩
        have ec : cutV (row.map V.int) none (some (((row.map V.int).length : Int) - 16)) = (row.take (row.length - 16)).map V.int := by
          rw [List.length_map, show (row.length : Int) - 16 = ((row.length - 16 : Nat) : Int) by omega, cut_to_n, List.map_take]
        rw [ec]
        have s3 := s12.trans (same_upd (o := .lst ((row.take (row.length - 16)).map V.int)) n3)
        have elen : ((row.take (row.length - 16)).map V.int).length = row.length - 16 := by rw [List.length_map, List.length_take]; omega
        refine ⟨_, rfl, p3, _, rfl, .inl (SqL.of upd_same), rfl, _, rfl, ite2 (fun e => ?_) (fun e => ?_)⟩
        · have h0 : row.length - 16 = 0 := by
            have := V.int.inj (of_decide_eq_true e)
            rw [elen] at this
            omega
          rw [if_neg (fun z => by omega)] at hj
          exact qn hj _ s3
        · have h0 : 0 < row.length - 16 := by
            rcases Nat.eq_zero_or_pos (row.length - 16) with z | z
            · exfalso
              refine e (decide_eq_true ?_)
              rw [elen, z]
              rfl
            · exact z
          refine ⟨_, rfl, p3, _, rfl, .inl (SqL.of upd_same), _, _, rfl, rfl, _, rfl, ite2 (fun e => ?_) (fun e => ?_)⟩
          · have h1 : 256 < row.length - 16 := by
              have := of_decide_eq_true e
              rw [elen] at this
              omega
            rw [if_neg (fun z => by omega)] at hj
            exact qn hj _ s3
          · have h1 : row.length - 16 ≤ 256 := by
              rcases Nat.lt_or_ge 256 (row.length - 16) with z | z
              · exfalso
                refine e (decide_eq_true ?_)
                rw [elen]
                omega
              · exact z
            rw [if_pos ⟨hf, h0, h1⟩] at hj
            exact ⟨_, rfl, qs _ hj _ p3 s3 (s12.free n3) upd_same⟩
    · exact fun σ2 => ⟨true, ff, (fun _ a _ => qn (judge_l hU) _ s1), (fun z => by cases z)⟩
/-! ### readers -/
structure RdC (K : PySem.W.Frag) (C : Addr) : Prop where
  cls : Cls K C
  nl : NoAttr K C "last"
  nb : NoAttr K C "behind"
  ns : NoAttr K C "spoilt"
abbrev rdF (l : Addr) (bv : V) (n : Nat) : List (Str × V) := [(("last" : Str), .ref l), (("behind" : Str), bv), (("spoilt" : Str), .int (n : Int))]
def bvO : Option (Addr × List Int) → V
  | none => .non
  | some x => .ref x.1
def PmOut (H H' : Hp) (nb : Addr) (B : Option (Addr × List Int)) (n : Nat) (v : V) (n' : Nat) : Prop :=
  ((∀ x, B = some x → x.2.length ≤ 8) ∧ v = .non ∧ n' = n) ∨ (∃ x, B = some x ∧ 8 < x.2.length ∧ judge (x.2.take (x.2.length - 8)) = none ∧ v = .non ∧ n' = n + 1) ∨
  (∃ x p pp, B = some x ∧ 8 < x.2.length ∧ judge (x.2.take (x.2.length - 8)) = some p ∧ v = .ref pp ∧ n' = n ∧ H pp = none ∧ H' pp = some (.lst (p.map V.int)) ∧ pp ≠ nb)
theorem mark_len : (markL.map V.int).length = 8 := rfl
theorem sc_Reader___init__ : FnScope ["self"] ["self"] (defScope m_Reader___init__) := ⟨rfl, rfl, rfl, by decide +kernel, rfl, by decide +kernel, by decide +kernel⟩
def spRi (C : Addr) : Sp := fun vs H Q _ => ∃ (r dx : Addr), vs = [.ref r] ∧ H r = some (.ins C dx []) ∧ ∀ (l : Addr), H l = none → Q .non (upd (upd H l (.lst [])) r (.ins C dx (rdF l .non 0)))
theorem ok_Reader___init__ {f C : Addr} {fd : FuncData} {k : Nat} (F : Fun K "__init__" "Reader.__init__" m_Reader___init__ f fd) (R : RdC K C) : FnOk P w K mg base CX0 (k + 1) f fd ["self"] (spRi C) := by
  have sc := sc_Reader___init__
  refine F.ok sc (fun vs H Q E h => ?_) (fun cdv A outer s H vs Q E hr h => ?_)
  · obtain ⟨r, dx, rfl, _⟩ := h
    rfl
  · obtain ⟨r, dx, rfl, hr_, q⟩ := h
    refine ⟨_, (pss_cons (ps_fldK K rfl (pv 0) (pe_lst pa_nil))
 (pss_cons (ps_fldK K rfl (pv 0) pe_non)
 (pss_one (ps_fldK K rfl (pv 0) pe_int)))), ?_⟩
    refine ⟨Nat.zero_le _, fun l nl => ?_⟩
    refine ⟨_, rfl, r, C, dx, _, rfl, same_upd nl _ _ hr_, R.cls, R.nl, (by show 0 < 1000; decide), ?_⟩
    refine ⟨_, rfl, r, C, dx, _, rfl, upd_same, R.cls, R.nb, (by show 1 < 1000; decide), ?_⟩
    rw [upd_upd]
    refine ⟨_, rfl, r, C, dx, _, rfl, upd_same, R.cls, R.ns, (by show 2 < 1000; decide), ?_⟩
    rw [upd_upd]
    exact q l nl
/-! ### a stream as it is heard: all signs since it was begun, where the last mark ended (-1: none is awaited), how many were hurt -/
structure LS where
  seen : List Int
  en : Int
  hurt : Nat
def LS.Ok (S : LS) : Prop := Bits S.seen ∧ (S.en = -1 ∨ (0 ≤ S.en ∧ S.en ≤ S.seen.length))
def lastOf (l : List Int) : List Int := l.drop (l.length - 8)
def hstep (S : LS) (b : Int) : LS × Option (List Int) :=
  if lastOf (S.seen ++ [b]) = markL then
    if S.en < 0 ∨ ((S.seen ++ [b]).length : Int) - 8 ≤ S.en then (⟨S.seen ++ [b], (S.seen ++ [b]).length, S.hurt⟩, none)
    else match judge (((S.seen ++ [b]).drop S.en.toNat).take ((S.seen ++ [b]).length - 8 - S.en.toNat)) with
      | none => (⟨S.seen ++ [b], (S.seen ++ [b]).length, S.hurt + 1⟩, none)
      | some p => (⟨S.seen ++ [b], (S.seen ++ [b]).length, S.hurt⟩, some p)
  else if 0 ≤ S.en ∧ 400 < ((S.seen ++ [b]).length : Int) - S.en then (⟨S.seen ++ [b], -1, S.hurt + 1⟩, none)
  else (⟨S.seen ++ [b], S.en, S.hurt⟩, none)
theorem hstep_seen (S : LS) (b : Int) : (hstep S b).1.seen = S.seen ++ [b] := by
  unfold hstep
  split
  · split
    · rfl
    · split <;> rfl
  · split <;> rfl
theorem hstep_ok {S : LS} {b : Int} (h : S.Ok) (hb : isB b) : (hstep S b).1.Ok := by
  have h1 : Bits (S.seen ++ [b]) := bits_app h.1 (bits_one hb)
  have hl : (S.seen ++ [b]).length = S.seen.length + 1 := by rw [List.length_append]; rfl
  unfold hstep
  split
  · split
    · exact ⟨h1, .inr ⟨by show (0 : Int) ≤ ((S.seen ++ [b]).length : Int); omega, Int.le_refl _⟩⟩
    · split
      · exact ⟨h1, .inr ⟨by show (0 : Int) ≤ ((S.seen ++ [b]).length : Int); omega, Int.le_refl _⟩⟩
      · exact ⟨h1, .inr ⟨by show (0 : Int) ≤ ((S.seen ++ [b]).length : Int); omega, Int.le_refl _⟩⟩
  · split
    · exact ⟨h1, .inl rfl⟩
    · refine ⟨h1, ?_⟩
      rcases h.2 with e | ⟨e1, e2⟩
      · exact .inl e
      · exact .inr ⟨e1, by show S.en ≤ ((S.seen ++ [b]).length : Int); omega⟩
theorem last_more (l : List Int) (b : Int) : (lastOf l).drop ((lastOf l).length - 7) ++ [b] = lastOf (l ++ [b]) := by
  unfold lastOf
  rw [List.length_append, List.length_drop, List.drop_drop]
  show _ = (l ++ [b]).drop (l.length + 1 - 8)
  rw [List.drop_append_of_le_length (by omega)]
  congr 2
  omega
def hall (S : LS) (bs : List Int) : LS × List (List Int) := bs.foldl (fun T b => ((hstep T.1 b).1, T.2 ++ (hstep T.1 b).2.toList)) (S, [])
theorem hall_more {S : LS} {bs : List Int} {i : Nat} {b : Int} (h : bs[i]? = some b) : hall S (bs.take (i + 1)) = ((hstep (hall S (bs.take i)).1 b).1, (hall S (bs.take i)).2 ++ (hstep (hall S (bs.take i)).1 b).2.toList) := by
  unfold hall
  rw [take_more h, List.foldl_append]
  rfl
theorem hall_seen (S : LS) (bs : List Int) : ∀ i, i ≤ bs.length → (hall S (bs.take i)).1.seen = S.seen ++ bs.take i
  | 0, _ => by
    show S.seen = S.seen ++ []
    rw [List.append_nil]
  | i + 1, h => by
    have hi : i < bs.length := h
    rw [hall_more (List.getElem?_eq_getElem hi), hstep_seen, hall_seen S bs i (by omega), take_more (List.getElem?_eq_getElem hi), List.append_assoc]
theorem hall_ok {S : LS} {bs : List Int} (h : S.Ok) (hb : Bits bs) : ∀ i, i ≤ bs.length → (hall S (bs.take i)).1.Ok
  | 0, _ => h
  | i + 1, hl => by
    have hi : i < bs.length := hl
    rw [hall_more (List.getElem?_eq_getElem hi)]
    exact hstep_ok (hall_ok h hb i (by omega)) (hb _ (List.getElem_mem hi))
theorem toList_len {α : Type} (o : Option α) : o.toList.length ≤ 1 := by cases o <;> simp
theorem hall_len (S : LS) (bs : List Int) : ∀ i, i ≤ bs.length → (hall S (bs.take i)).2.length ≤ i
  | 0, _ => Nat.le_refl _
  | i + 1, h => by
    have hi : i < bs.length := h
    rw [hall_more (List.getElem?_eq_getElem hi)]
    have := hall_len S bs i (by omega)
    have := toList_len (hstep (hall S (bs.take i)).1 bs[i]).2
    show ((hall S (bs.take i)).2 ++ (hstep (hall S (bs.take i)).1 bs[i]).2.toList).length ≤ i + 1
    rw [List.length_append]
    omega
theorem sc_Reader_pass_mark : FnScope ["self", "between", "payload"] ["self"] (defScope m_Reader_pass_mark) := ⟨rfl, rfl, rfl, by decide +kernel, rfl, by decide +kernel, by decide +kernel⟩
def spPm (C : Addr) : Sp := fun vs H Q _ => ∃ (r dx l : Addr) (n : Nat) (B : Option (Addr × List Int)), vs = [.ref r] ∧ H r = some (.ins C dx (rdF l (bvO B) n)) ∧ (∀ x, B = some x → H x.1 = some (.lst (x.2.map V.int)) ∧ Bits x.2 ∧ x.2.length ≤ 9000) ∧
  ∀ (H' : Hp) (nb : Addr) (v : V) (n' : Nat), Mv r H H' → H nb = none → H' nb = some (.lst []) → H' r = some (.ins C dx (rdF l (.ref nb) n')) → PmOut H H' nb B n v n' → Q v H'
theorem ok_Reader_pass_mark {f C a_MARK : Addr} {fd : FuncData} {k : Nat} (F : Fun K "pass_mark" "Reader.pass_mark" m_Reader_pass_mark f fd) (n_len : mg "len" = none) (g_MARK : mg "MARK" = some (.ref a_MARK)) (h_MARK : ∀ H, SqT K H a_MARK (markL.map V.int)) (R : RdC K C) (c_payload_between : Cal P w K mg base k "payload_between" ["bits"] (spPb K)) :
    FnOk P w K mg base CX0 (k + 1) f fd ["self"] (spPm C) := by
  have sc := sc_Reader_pass_mark
  refine F.ok sc (fun vs H Q E h => ?_) (fun cdv A outer s H vs Q E hr h => ?_)
  · obtain ⟨r, dx, l, n, B, rfl, _⟩ := h
    rfl
  · obtain ⟨r, dx, l, n, B, rfl, hr_, hB, q⟩ := h
    refine ⟨_, (pss_cons (ps_set (i := 1) sc.nd rfl (.inl rfl) (pe_ifExp (pt_cmpR op_isN (pe_fldK K rfl (pv 0)) pe_non (nomark _)) (pe_lst pa_nil) (pe_slice (sl_listK K rfl) (pe_fldK K rfl (pv 0)) po_none (po_some (pe_un un_neg (pe_callB (call_lenK K rfl) (by rfl) n_len PySem.boot_len (pa_cons (pe_glob (v := .ref a_MARK) (by rfl) g_MARK rfl) pa_nil)))))))
 (pss_cons (ps_fldK K rfl (pv 0) (pe_lst pa_nil))
 (pss_cons (ps_if (pt_cmpR op_eq (pe_callB (call_lenK K rfl) (by rfl) n_len PySem.boot_len (pa_cons (pv 1) pa_nil)) pe_int (nomark _))
  (pss_one (ps_ret pe_non))
  pss_nil)
 (pss_cons (ps_set (i := 2) sc.nd rfl (.inl rfl) (pe_callC c_payload_between hr (by rfl) (pa_cons (pv 1) pa_nil)))
 (pss_cons (ps_if (pt_cmpR op_isN (pv 2) pe_non (nomark _))
  (pss_one (ps_fldaugK K rfl (pv 0) pe_int in_add))
  pss_nil)
 (pss_one (ps_ret (pv 2)))))))), ?_⟩
    refine asg_by (J := fun v H1 => ∃ p bt, v = .ref p ∧ Same H H1 ∧ H p = none ∧ H1 p = some (.lst (bt.map V.int)) ∧ ((B = none ∧ bt = []) ∨ ∃ x, B = some x ∧ bt = x.2.take (x.2.length - 8))) ?_ (fun rest => ?_)
    · rintro v H1 ⟨p, bt, rfl, s1, np, ep, hbt⟩
      have hbb : Bits bt ∧ bt.length ≤ 9000 := by
        rcases hbt with ⟨_, rfl⟩ | ⟨x, hx, rfl⟩
        · exact ⟨bits_nil, by decide⟩
        · have := hB x hx
          exact ⟨bits_take this.2.1 _, by rw [List.length_take]; omega⟩
      refine ⟨Nat.zero_le _, fun nb nnb => ?_⟩
      have hr1 := s1 _ _ hr_
      have hr2 : upd H1 nb (.lst []) r = some (.ins C dx (rdF l (bvO B) n)) := same_upd nnb _ _ hr1
      have nr : r ≠ nb := ne_of_none hr1 nnb
      refine ⟨_, rfl, r, C, dx, _, rfl, hr2, R.cls, R.nb, (by show 3 < 1000; decide), ?_⟩
      have eput : putF "behind" (.ref nb) (rdF l (bvO B) n) = rdF l (.ref nb) n := rfl
      rw [eput]
      have nbr : nb ≠ r := nr.symm
      have pr : p ≠ r := (ne_of_none hr_ np).symm
      have pnb : p ≠ nb := ne_of_none ep nnb
      have hH2 : ∀ a o, a ≠ r → H1 a = some o → upd (upd H1 nb (.lst [])) r (.ins C dx (rdF l (.ref nb) n)) a = some o := fun a o n1 e => by
        rw [upd_ne n1, upd_ne (ne_of_none e nnb)]
        exact e
      have enb : upd (upd H1 nb (.lst [])) r (.ins C dx (rdF l (.ref nb) n)) nb = some (.lst []) := by rw [upd_ne nbr, upd_same]
      have er : upd (upd H1 nb (.lst [])) r (.ins C dx (rdF l (.ref nb) n)) r = some (.ins C dx (rdF l (.ref nb) n)) := upd_same
      have ep2 := hH2 _ _ pr ep
      have mv2 : Mv r H (upd (upd H1 nb (.lst [])) r (.ins C dx (rdF l (.ref nb) n))) := fun a o n1 e => hH2 a o n1 (s1 _ _ e)
      generalize upd (upd H1 nb (.lst [])) r (.ins C dx (rdF l (.ref nb) n)) = H2 at hH2 enb er ep2 mv2 ⊢
      have nnb0 : H nb = none := s1.free nnb
      refine ⟨_, rfl, p, _, rfl, .inl (SqL.of ep2), rfl, _, rfl, ite2 (fun e => ?_) (fun e => ?_)⟩
      · have h0 : bt.length = 0 := by
          have := V.int.inj (of_decide_eq_true e)
          rw [List.length_map] at this
          omega
        refine q H2 nb .non n mv2 nnb0 enb er (.inl ⟨fun x hx => ?_, rfl, rfl⟩)
        rcases hbt with ⟨z, _⟩ | ⟨y, hy, rfl⟩
        · rw [z] at hx
          cases hx
        · rw [hy] at hx
          cases hx
          rw [List.length_take] at h0
          omega
      · have h0 : 0 < bt.length := by
          rcases Nat.eq_zero_or_pos bt.length with z | z
          · exfalso
            refine e (decide_eq_true ?_)
            rw [List.length_map, z]
            rfl
          · exact z
        obtain ⟨x, hx, rfl⟩ : ∃ x, B = some x ∧ bt = x.2.take (x.2.length - 8) := by
          rcases hbt with ⟨_, rfl⟩ | h
          · exact absurd h0 (by decide)
          · exact h
        have h8 : 8 < x.2.length := by
          rw [List.length_take] at h0
          omega
        refine ⟨_, rfl, p, _, rfl, SqL.of ep2, hbb.1, hbb.2, (fun hj H3 s3 => ?_), (fun pl hj H3 pp s3 npp epp => ?_)⟩
        · refine ⟨_, rfl, rfl, _, rfl, iteT ?_⟩
          refine ⟨_, rfl, r, C, dx, _, _, rfl, s3 _ _ er, R.cls, R.ns, rfl, _, _, rfl, rfl, dx, _, s3 _ _ er, (by show 3 < 1000; decide), ?_⟩
          have eput2 : putF "spoilt" (.int ((n : Int) + 1)) (rdF l (.ref nb) n) = rdF l (.ref nb) (n + 1) := rfl
          rw [eput2]
          refine ⟨_, rfl, ?_⟩
          refine q _ nb .non (n + 1) (fun a o n1 e => by rw [upd_ne n1]; exact s3 _ _ (mv2 a o n1 e)) nnb0 ?_ upd_same (.inr (.inl ⟨x, hx, h8, hj, rfl, rfl⟩))
          rw [upd_ne nbr]
          exact s3 _ _ enb
        · refine ⟨_, rfl, rfl, _, rfl, iteF ?_⟩
          refine ⟨_, rfl, ?_⟩
          have npp0 : H pp = none := by
            cases z : H pp with
            | none => rfl
            | some o =>
              by_cases y : pp = r
              · subst y
                rw [er] at npp
                cases npp
              · rw [mv2 _ _ y z] at npp
                cases npp
          exact q _ nb (.ref pp) n (fun a o n1 e => s3 _ _ (mv2 a o n1 e)) nnb0 (s3 _ _ enb) (s3 _ _ er) (.inr (.inr ⟨x, pl, pp, hx, h8, hj, rfl, rfl, npp0, epp, (ne_of_none enb npp).symm⟩))
    · refine ⟨_, rfl, r, C, dx, _, _, rfl, hr_, R.cls, R.nb, rfl, rfl, _, rfl, ?_⟩
      cases B with
      | none =>
        refine iteT ?_
        exact ⟨Nat.zero_le _, fun p np => rest _ _ ⟨p, [], rfl, same_upd np, np, upd_same, .inl ⟨rfl, rfl⟩⟩⟩
      | some x =>
        obtain ⟨hx, hxb, hxl⟩ := hB x rfl
        refine iteF ?_
        refine ⟨_, rfl, r, C, dx, _, _, rfl, hr_, R.cls, R.nb, rfl, a_MARK, _, rfl, .inr (h_MARK _), _, rfl, _, rfl, x.1, _, rfl, SqL.of hx, fun p np => ?_⟩
        have ec : cutV (x.2.map V.int) none (some (-((markL.map V.int).length : Int))) = (x.2.take (x.2.length - 8)).map V.int := by
          rw [mark_len, cut_to_b _ 8 (by decide), List.length_map, List.map_take]
        rw [ec]
        exact rest _ _ ⟨p, _, rfl, same_upd np, np, upd_same, .inr ⟨x, rfl, rfl⟩⟩
theorem sc_Reader_hurt : FnScope ["self"] ["self"] (defScope m_Reader_hurt) := ⟨rfl, rfl, rfl, by decide +kernel, rfl, by decide +kernel, by decide +kernel⟩
/-- a reader at r that stands so -/
structure Rdr (C r l bh : Addr) (S : LS) (H : Hp) : Prop where
  ins : ∃ dx, H r = some (.ins C dx (rdF l (if S.en < 0 then .non else .ref bh) S.hurt))
  last : H l = some (.lst ((lastOf S.seen).map V.int))
  beh : 0 ≤ S.en → H bh = some (.lst ((S.seen.drop S.en.toNat).map V.int)) ∧ l ≠ bh
def spHurt (C : Addr) : Sp := fun vs H Q _ => ∃ (r l bh : Addr) (S : LS), vs = [.ref r] ∧ Rdr C r l bh S H ∧ Q (.int (S.hurt : Int)) H
theorem ok_Reader_hurt {f C : Addr} {fd : FuncData} {k : Nat} (F : Fun K "hurt" "Reader.hurt" m_Reader_hurt f fd) (R : RdC K C) : FnOk P w K mg base CX0 (k + 1) f fd ["self"] (spHurt C) := by
  have sc := sc_Reader_hurt
  refine F.ok sc (fun vs H Q E h => ?_) (fun cdv A outer s H vs Q E hr h => ?_)
  · obtain ⟨r, l, bh, S, rfl, _⟩ := h
    rfl
  · obtain ⟨r, l, bh, S, rfl, ⟨⟨dx, hr_⟩, _⟩, q⟩ := h
    refine ⟨_, (pss_one (ps_ret (pe_fldK K rfl (pv 0)))), ?_⟩
    exact ⟨_, rfl, r, C, dx, _, _, rfl, hr_, R.cls, R.ns, rfl, q⟩
/-! ### what a reader changes -/
/-- all but what stands at r and at b stays, and nothing vanishes -/
structure Mv2 (r b : Addr) (H H' : Hp) : Prop where
  kp : ∀ a o, a ≠ r → a ≠ b → H a = some o → H' a = some o
  al : ∀ a, H' a = none → H a = none
theorem Mv2.refl (r b : Addr) (H : Hp) : Mv2 r b H H := ⟨fun _ _ _ _ h => h, fun _ h => h⟩
theorem Mv2.of {r b : Addr} {H H' : Hp} (s : Same H H') : Mv2 r b H H' := ⟨fun a o _ _ h => s a o h, al_same s⟩
theorem Mv2.trans {r b b' : Addr} {H H1 H2 : Hp} (m : Mv2 r b H H1) (m' : Mv2 r b' H1 H2) (hb : b' = r ∨ b' = b ∨ H b' = none) : Mv2 r b H H2 := by
  refine ⟨fun a o n1 n2 e => m'.kp a o n1 (fun z => ?_) (m.kp a o n1 n2 e), fun a h => m.al a (m'.al a h)⟩
  rcases hb with y | y | y
  · exact n1 (z.trans y)
  · exact n2 (z.trans y)
  · rw [← z, e] at y
    cases y
theorem Mv2.f {r b : Addr} {H H' : Hp} (m : Mv2 r b H H') : MvF [r, b] H H' := ⟨fun a o n h => m.kp a o (fun z => n (z ▸ .head _)) (fun z => n (z ▸ .tail _ (.head _))) h, m.al⟩
def Told (H H' : Hp) (l' bh' : Addr) : Option (List Int) → V → Prop
  | none, v => v = .non
  | some p, v => ∃ pp, v = .ref pp ∧ H pp = none ∧ H' pp = some (.lst (p.map V.int)) ∧ pp ≠ l' ∧ pp ≠ bh'
theorem eqv_tups (ns ms : List Int) : PyData.eqv (.tuple (ns.map PyData.int)) (.tuple (ms.map PyData.int)) = decide (ns = ms) := by
  have h := eqv_ints ns ms
  exact h
theorem shaped_tup (ns : List Int) : SeqAt.shaped (.tuple (ns.map PyData.int)) = true := shaped_ints ns
/-- a reader, whole -/
def RdP (C r l bh : Addr) (S : LS) (H : Hp) : Prop := Rdr C r l bh S H ∧ S.Ok ∧ (S.en < 0 → bh = r)
theorem RdP.loc {C r l bh : Addr} {S : LS} {H H' : Hp} (k : ∀ a ∈ [r, l, bh], ∀ o, H a = some o → H' a = some o) (h : RdP C r l bh S H) : RdP C r l bh S H' := by
  obtain ⟨⟨⟨dx, e1⟩, e2, e3⟩, h⟩ := h
  exact ⟨⟨⟨dx, k r (.head _) _ e1⟩, k l (.tail _ (.head _)) _ e2, fun z => ⟨k bh (.tail _ (.tail _ (.head _))) _ (e3 z).1, (e3 z).2⟩⟩, h⟩
theorem RdP.pl {C r l bh : Addr} {S : LS} {H : Hp} (h : RdP C r l bh S H) : (∃ o, H r = some o ∧ plain o) ∧ (∃ o, H l = some o ∧ plain o) ∧ (∃ o, H bh = some o ∧ plain o) := by
  obtain ⟨⟨⟨dx, e1⟩, e2, e3⟩, h, h2⟩ := h
  refine ⟨⟨_, e1, trivial⟩, ⟨_, e2, trivial⟩, ?_⟩
  by_cases z : S.en < 0
  · rw [h2 z]
    exact ⟨_, e1, trivial⟩
  · exact ⟨_, (e3 (by omega)).1, trivial⟩
theorem RdP.al {C r l bh : Addr} {S : LS} {H : Hp} (h : RdP C r l bh S H) : H r ≠ none ∧ H l ≠ none ∧ H bh ≠ none := by
  obtain ⟨⟨o1, e1, _⟩, ⟨o2, e2, _⟩, ⟨o3, e3, _⟩⟩ := h.pl
  rw [e1, e2, e3]
  exact ⟨(fun z => nomatch z), (fun z => nomatch z), (fun z => nomatch z)⟩
theorem in3 {a r l b : Addr} (h : a ∈ [r, l, b]) : a = r ∨ a = l ∨ a = b := by
  simpa using h
theorem in2 {a r b : Addr} (h : a ∈ [r, b]) : a = r ∨ a = b := by
  simpa using h
theorem ni3 {a r l b : Addr} (h1 : a ≠ r) (h2 : a ≠ l) (h3 : a ≠ b) : a ∉ [r, l, b] := fun h => (in3 h).elim h1 (fun h => h.elim h2 h3)
def tRd (C r l bh : Addr) (S : LS) : Th := ⟨[r, l, bh], RdP C r l bh S, fun H H' k h => h.loc k, fun H h a ha => by
  rcases in3 ha with rfl | rfl | rfl
  · exact h.pl.1
  · exact h.pl.2.1
  · exact h.pl.2.2⟩
/-- rows of ints at these places -/
def RowsAt (H : Hp) : List Addr → List (List Int) → Prop
  | [], [] => True
  | p :: ps, r :: rs => H p = some (.lst (r.map V.int)) ∧ RowsAt H ps rs
  | _, _ => False
theorem RowsAt.dp {H : Hp} : ∀ {ps : List Addr} {rs : List (List Int)}, RowsAt H ps rs → DpAll K H (ps.map V.ref) (rs.map dI)
  | [], [], _ => .nil
  | p :: ps, r :: rs, h => .cons (dp_ints (SqL.of h.1)) (RowsAt.dp h.2)
theorem RowsAt.len {H : Hp} : ∀ {ps : List Addr} {rs : List (List Int)}, RowsAt H ps rs → ps.length = rs.length
  | [], [], _ => rfl
  | p :: ps, r :: rs, h => congrArg (· + 1) (RowsAt.len h.2)
theorem RowsAt.loc {H H' : Hp} : ∀ {ps : List Addr} {rs : List (List Int)}, (∀ a ∈ ps, ∀ o, H a = some o → H' a = some o) → RowsAt H ps rs → RowsAt H' ps rs
  | [], [], _, _ => trivial
  | p :: ps, r :: rs, k, h => ⟨k p (.head _) _ h.1, RowsAt.loc (fun a ha => k a (.tail _ ha)) h.2⟩
theorem RowsAt.pl {H : Hp} : ∀ {ps : List Addr} {rs : List (List Int)}, RowsAt H ps rs → ∀ a ∈ ps, ∃ o, H a = some o ∧ plain o
  | p :: ps, r :: rs, h, a, ha => by
    rcases List.mem_cons.mp ha with rfl | ha
    · exact ⟨_, h.1, trivial⟩
    · exact RowsAt.pl h.2 a ha
theorem RowsAt.al {H : Hp} {ps : List Addr} {rs : List (List Int)} (h : RowsAt H ps rs) (a : Addr) (ha : a ∈ ps) : H a ≠ none := by
  obtain ⟨o, e, _⟩ := RowsAt.pl h a ha
  rw [e]
  exact fun z => nomatch z
theorem RowsAt.snoc {H : Hp} {p : Addr} {r : List Int} (e : H p = some (.lst (r.map V.int))) : ∀ {ps : List Addr} {rs : List (List Int)}, RowsAt H ps rs → RowsAt H (ps ++ [p]) (rs ++ [r])
  | [], [], _ => ⟨e, trivial⟩
  | q :: ps, s :: rs, h => ⟨h.1, RowsAt.snoc e h.2⟩
theorem RowsAt.at {H : Hp} : ∀ {ps : List Addr} {rs : List (List Int)} {i : Nat} {p : Addr}, RowsAt H ps rs → ps[i]? = some p → ∃ r, rs[i]? = some r ∧ H p = some (.lst (r.map V.int))
  | q :: ps, s :: rs, 0, p, h, e => by cases e; exact ⟨s, rfl, h.1⟩
  | q :: ps, s :: rs, i + 1, p, h, e => RowsAt.at (i := i) h.2 e
/-- a list of rows; what it holds -/
def tRowsG (pl : Addr) (xs : List V) (ps : List Addr) (rs : List (List Int)) : Th := ⟨pl :: ps, fun H => H pl = some (.lst xs) ∧ RowsAt H ps rs ∧ pl ∉ ps, fun H H' k h => ⟨k pl (.head _) _ h.1, RowsAt.loc (fun a ha => k a (.tail _ ha)) h.2.1, h.2.2⟩, fun H h a ha => by
  rcases List.mem_cons.mp ha with rfl | ha
  · exact ⟨_, h.1, trivial⟩
  · exact RowsAt.pl h.2.1 a ha⟩
abbrev tRows (pl : Addr) (ps : List Addr) (rs : List (List Int)) : Th := tRowsG pl (ps.map V.ref) ps rs
def dRows (rs : List (List Int)) : PyData := .list (rs.map dI)
theorem dp_rows {H : Hp} {pl : Addr} {ps : List Addr} {rs : List (List Int)} (h1 : H pl = some (.lst (ps.map V.ref))) (h2 : RowsAt H ps rs) : Dp K H (.ref pl) (dRows rs) := .lst (SqL.of h1) (RowsAt.dp h2)
theorem canLay_rows : ∀ rs : List (List Int), PyData.canLayAll0 (rs.map dI) = true
  | [] => rfl
  | r :: rs => by
    show (PyData.canLayAll0 (r.map PyData.int) && PyData.canLayAll0 (rs.map dI)) = true
    rw [canLay_ints r, canLay_rows rs]
    rfl
theorem depth_rows : ∀ rs : List (List Int), PyData.depthAll (rs.map dI) ≤ 1
  | [] => Nat.zero_le _
  | r :: rs => by
    show max (PyData.depthAll (r.map PyData.int) + 1) (PyData.depthAll (rs.map dI)) ≤ 1
    rw [depth_ints r]
    exact Nat.max_le.mpr ⟨Nat.le_refl _, depth_rows rs⟩
theorem shaped_rows (rs : List (List Int)) : SeqAt.shaped (dRows rs) = true := by
  unfold SeqAt.shaped
  rw [Bool.and_eq_true]
  refine ⟨canLay_rows rs, decide_eq_true ?_⟩
  show PyData.depthAll (rs.map dI) + 1 ≤ 64
  have := depth_rows rs
  omega
theorem dn_rows {rs : List (List Int)} (h : rs.length ≤ 100000) (hr : ∀ r ∈ rs, r.length ≤ 100000) (n : Nat) : Dn (n + 3) (dRows rs) := .inr (.inr (.inr (.inr ⟨_, .inl rfl, by rw [List.length_map]; exact h, fun e he => by
  obtain ⟨r, hm, rfl⟩ := List.mem_map.mp he
  exact .inr (.inr (.inr (.inr ⟨_, .inl rfl, by rw [List.length_map]; exact hr r hm, fun e he => by
    obtain ⟨z, _, rfl⟩ := List.mem_map.mp he
    exact .inr (.inl ⟨z, rfl⟩)⟩)))⟩)))
theorem sc_Reader_take_bit : FnScope ["self", "bit"] ["self", "bit"] (defScope m_Reader_take_bit) := ⟨rfl, rfl, rfl, by decide +kernel, rfl, by decide +kernel, by decide +kernel⟩
def spTb (C : Addr) : Sp := fun vs H Q _ => ∃ (r l bh : Addr) (S : LS) (b : Int), vs = [.ref r, .int b] ∧ isB b ∧ Rdr C r l bh S H ∧ S.Ok ∧ (S.en < 0 → bh = r) ∧ S.seen.length < 9000 ∧
  ∀ (H' : Hp) (l' bh' : Addr) (v : V), Mv2 r bh H H' → H l' = none → (bh' = r ∨ bh' = bh ∨ H bh' = none) → ((hstep S b).1.en < 0 → bh' = r) → Rdr C r l' bh' (hstep S b).1 H' → Told H H' l' bh' (hstep S b).2 v → Q v H'
theorem ok_Reader_take_bit {f C a_MARK : Addr} {fd : FuncData} {k : Nat} {tO : Tok} (F : Fun K "take_bit" "Reader.take_bit" m_Reader_take_bit f fd) (n_len : mg "len" = none) (n_tuple : mg "tuple" = none) (g_MARK : mg "MARK" = some (.ref a_MARK)) (h_MARK : ∀ H, SqT K H a_MARK (markL.map V.int)) (g_MOST_OPEN : mg "MOST_OPEN" = some (.int 400 tO)) (R : RdC K C)
    (c_Reader_pass_mark : CalM CX0 P w K mg base k C "pass_mark" ["self"] (spPm C)) : FnOk P w K mg base CX0 (k + 1) f fd ["self", "bit"] (spTb C) := by
  have sc := sc_Reader_take_bit
  refine F.ok sc (fun vs H Q E h => ?_) (fun cdv A outer s H vs Q E hr h => ?_)
  · obtain ⟨r, l, bh, S, b, rfl, _⟩ := h
    rfl
  · obtain ⟨r, l, bh, S, b, rfl, hb, ⟨⟨dx, hr_⟩, hl_, hbh⟩, hok, hown, hlen, q⟩ := h
    have hnl : (S.seen ++ [b]).length = S.seen.length + 1 := by rw [List.length_append]; rfl
    refine ⟨_, (pss_cons (ps_fldK K rfl (pv 0) (pe_op op_cat (pe_slice (sl_listK K rfl) (pe_fldK K rfl (pv 0)) (po_some (pe_op op_sub pe_int (pe_callB (call_lenK K rfl) (by rfl) n_len PySem.boot_len (pa_cons (pe_glob (v := .ref a_MARK) (by rfl) g_MARK rfl) pa_nil)))) po_none) (pe_lst (pa_cons (pv 1) pa_nil))))
 (pss_cons (ps_if (pt_cmpR op_notN (pe_fldK K rfl (pv 0)) pe_non (nomark _))
  (pss_one (ps_expr (pe_bmK K rfl PySem.F.plainAttrs_list PySem.F.slot_list_append PySem.F.type_list_append mt_append (pe_fldK K rfl (pv 0)) (pa_cons (pv 1) pa_nil))))
  pss_nil)
 (pss_cons (ps_if (pt_cmpR (op_eqDK K rfl hr.units) (pe_callTy (call_tupleK K rfl) (by rfl) n_tuple (by decide +kernel) (pa_cons (pe_fldK K rfl (pv 0)) pa_nil)) (pe_glob (v := .ref a_MARK) (by rfl) g_MARK rfl) (nomark _))
  (pss_one (ps_ret (pe_methC0 (pv 0) c_Reader_pass_mark hr)))
  pss_nil)
 (pss_cons (ps_if (PW.pt (pw_and (pt_cmpR op_notN (pe_fldK K rfl (pv 0)) pe_non (nomark _)) (pw_and1 (pt_cmpR op_gt (pe_callB (call_lenK K rfl) (by rfl) n_len PySem.boot_len (pa_cons (pe_fldK K rfl (pv 0)) pa_nil)) (pe_glob (v := .int 400) (by rfl) g_MOST_OPEN ⟨_, rfl⟩) (nomark _)))))
  (pss_cons (ps_fldaugK K rfl (pv 0) pe_int in_add)
 (pss_one (ps_fldK K rfl (pv 0) pe_non)))
  pss_nil)
 (pss_one (ps_ret pe_non)))))), ?_⟩
    refine ⟨_, rfl, r, C, dx, _, _, rfl, hr_, R.cls, R.nl, rfl, a_MARK, _, rfl, .inr (h_MARK _), _, _, rfl, rfl, _, rfl, l, _, rfl, SqL.of hl_, fun p1 n1 => ?_⟩
    have ec : cutV ((lastOf S.seen).map V.int) (some (1 - ((markL.map V.int).length : Int))) none = ((lastOf S.seen).drop ((lastOf S.seen).length - 7)).map V.int := by
      rw [mark_len, show (1 : Int) - ((8 : Nat) : Int) = -((7 : Nat) : Int) by decide, cut_from_b _ 7 (by decide), List.length_map, List.map_drop]
    rw [ec]
    have s1 : Same H (upd H p1 (.lst (((lastOf S.seen).drop ((lastOf S.seen).length - 7)).map V.int))) := same_upd n1
    refine ⟨_, rfl, (by show 1 ≤ sizeLine; decide), fun p2 n2 => ?_⟩
    have n12 : p1 ≠ p2 := ne_of_none upd_same n2
    have s2 := s1.trans (same_upd (o := .lst [.int b]) n2)
    refine ⟨p1, p2, _, _, rfl, rfl, (by rw [upd_ne n12]; exact upd_same), upd_same, ?_, fun p3 n3 => ?_⟩
    · rw [List.length_map, List.length_drop]
      refine sz4 ?_
      show (lastOf S.seen).length - ((lastOf S.seen).length - 7) + 1 ≤ 100000
      omega
    have em : ((lastOf S.seen).drop ((lastOf S.seen).length - 7)).map V.int ++ [V.int b] = (lastOf (S.seen ++ [b])).map V.int := by
      rw [← last_more, List.map_append]
      rfl
    rw [em]
    have s3 := s2.trans (same_upd (o := .lst ((lastOf (S.seen ++ [b])).map V.int)) n3)
    have n03 : H p3 = none := s2.free n3
    have r3 : p3 ≠ r := (ne_of_none hr_ n03).symm
    refine ⟨_, rfl, r, C, dx, _, rfl, s3 _ _ hr_, R.cls, R.nl, (by show 3 < 1000; decide), ?_⟩
    have ep : ∀ bv : V, putF "last" (.ref p3) (rdF l bv S.hurt) = rdF p3 bv S.hurt := fun _ => rfl
    rw [ep]
    have b3 : 0 ≤ S.en → bh ≠ p3 := fun z => ne_of_none (hbh z).1 n03
    have br : 0 ≤ S.en → bh ≠ r := fun z y => by
      rw [← y, (hbh z).1] at hr_
      cases hr_
    have hm1 : ∀ a o, a ≠ r → H a = some o → upd (upd (upd (upd H p1 (.lst (((lastOf S.seen).drop ((lastOf S.seen).length - 7)).map V.int))) p2 (.lst [.int b])) p3 (.lst ((lastOf (S.seen ++ [b])).map V.int))) r (.ins C dx (rdF p3 (if S.en < 0 then .non else .ref bh) S.hurt)) a = some o := fun a o n e => by
      rw [upd_ne n]
      exact s3 _ _ e
    have er1 : upd (upd (upd (upd H p1 (.lst (((lastOf S.seen).drop ((lastOf S.seen).length - 7)).map V.int))) p2 (.lst [.int b])) p3 (.lst ((lastOf (S.seen ++ [b])).map V.int))) r (.ins C dx (rdF p3 (if S.en < 0 then .non else .ref bh) S.hurt)) r = some (.ins C dx (rdF p3 (if S.en < 0 then .non else .ref bh) S.hurt)) := upd_same
    have el1 : upd (upd (upd (upd H p1 (.lst (((lastOf S.seen).drop ((lastOf S.seen).length - 7)).map V.int))) p2 (.lst [.int b])) p3 (.lst ((lastOf (S.seen ++ [b])).map V.int))) r (.ins C dx (rdF p3 (if S.en < 0 then .non else .ref bh) S.hurt)) p3 = some (.lst ((lastOf (S.seen ++ [b])).map V.int)) := by rw [upd_ne r3, upd_same]
    have al1 : ∀ a, upd (upd (upd (upd H p1 (.lst (((lastOf S.seen).drop ((lastOf S.seen).length - 7)).map V.int))) p2 (.lst [.int b])) p3 (.lst ((lastOf (S.seen ++ [b])).map V.int))) r (.ins C dx (rdF p3 (if S.en < 0 then .non else .ref bh) S.hurt)) a = none → H a = none := al_upd (al_same s3)
    generalize upd (upd (upd (upd H p1 (.lst (((lastOf S.seen).drop ((lastOf S.seen).length - 7)).map V.int))) p2 (.lst [.int b])) p3 (.lst ((lastOf (S.seen ++ [b])).map V.int))) r (.ins C dx (rdF p3 (if S.en < 0 then .non else .ref bh) S.hurt)) = H1 at hm1 er1 el1 al1 ⊢
    dsimp only
    refine if_by (J := fun σ1 H2 => σ1 = [some (.ref r), some (.int b)] ∧ Mv2 r bh H H2 ∧ H2 r = some (.ins C dx (rdF p3 (if S.en < 0 then .non else .ref bh) S.hurt)) ∧ H2 p3 = some (.lst ((lastOf (S.seen ++ [b])).map V.int)) ∧ (0 ≤ S.en → H2 bh = some (.lst (((S.seen ++ [b]).drop S.en.toNat).map V.int)))) ?_ (fun rest => ?_)
    · rintro σ1 H2 ⟨rfl, mv2, er2, el2, eb2⟩
      -- the mark?
      refine ⟨_, rfl, r, C, dx, _, _, rfl, er2, R.cls, R.nl, rfl, p3, _, rfl, .inl ⟨SqL.of el2, fun p4 n4 => ?_⟩⟩
      have s4 : Same H2 (upd H2 p4 (.tup ((lastOf (S.seen ++ [b])).map V.int))) := same_upd n4
      refine ⟨.tuple ((lastOf (S.seen ++ [b])).map PyData.int), .tuple (markL.map PyData.int), .tup (.inl (.inl upd_same)) (dpa_ints _), .tup (h_MARK _) (dpa_ints _), shaped_tup _, shaped_tup _, ?_⟩
      rw [eqv_tups]
      have er4 := s4 _ _ er2
      have el4 := s4 _ _ el2
      have eb4 : 0 ≤ S.en → _ := fun z => s4 _ _ (eb2 z)
      have mv4 : Mv2 r bh H (upd H2 p4 (.tup ((lastOf (S.seen ++ [b])).map V.int))) := ⟨fun a o z1 z2 e => s4 _ _ (mv2.kp a o z1 z2 e), al_upd mv2.al⟩
      generalize upd H2 p4 (.tup ((lastOf (S.seen ++ [b])).map V.int)) = H4 at er4 el4 eb4 mv4 ⊢
      have ehs : hstep S b = hstep S b := rfl
      unfold hstep at q
      refine ⟨_, rfl, ite2 (fun e => ?_) (fun e => ?_)⟩
      · have hm : lastOf (S.seen ++ [b]) = markL := of_decide_eq_true e
        rw [if_pos hm] at q
        refine ⟨_, rfl, r, dx, _, rfl, er4, rfl, r, dx, p3, S.hurt, (if S.en < 0 then none else some (bh, (S.seen ++ [b]).drop S.en.toNat)), rfl, ?_, ?_, ?_⟩
        · rw [er4]
          by_cases z : S.en < 0
          · rw [if_pos z, if_pos z]
            rfl
          · rw [if_neg z, if_neg z]
            rfl
        · intro x hx
          by_cases z : S.en < 0
          · rw [if_pos z] at hx
            cases hx
          · rw [if_neg z] at hx
            cases hx
            exact ⟨eb4 (by omega), bits_drop (bits_app hok.1 (bits_one hb)) _, by rw [List.length_drop]; omega⟩
        · intro H5 nb v n' mv5 nnb enb er5 hout
          have mv : Mv2 r bh H H5 := ⟨fun a o z1 z2 e => mv5 a o z1 (mv4.kp a o z1 z2 e), fun a h => mv4.al a (al_mv mv5 er5 a h)⟩
          have nbr : nb ≠ r := (ne_of_none er4 nnb).symm
          have el5 : H5 p3 = some (.lst ((lastOf (S.seen ++ [b])).map V.int)) := mv5 _ _ r3 el4
          have p3nb : p3 ≠ nb := ne_of_none el4 nnb
          have hnb : nb = r ∨ nb = bh ∨ H nb = none := by
            exact .inr (.inr (mv4.al _ nnb))
          have edr : (S.seen ++ [b]).drop ((S.seen ++ [b]).length : Int).toNat = [] := by
            rw [Int.toNat_natCast]
            exact List.drop_length
          have rd : ∀ h : Nat, n' = h → Rdr C r p3 nb ⟨S.seen ++ [b], (S.seen ++ [b]).length, h⟩ H5 := fun h eh => by
            refine ⟨⟨dx, ?_⟩, el5, fun _ => ⟨?_, p3nb⟩⟩
            · rw [if_neg (by show ¬ ((S.seen ++ [b]).length : Int) < 0; omega), ← eh]
              exact er5
            · show H5 nb = some (.lst (((S.seen ++ [b]).drop ((S.seen ++ [b]).length : Int).toNat).map V.int))
              rw [edr]
              exact enb
          have en0 : ∀ h : Nat, (⟨S.seen ++ [b], (S.seen ++ [b]).length, h⟩ : LS).en < 0 → nb = r := fun h z => absurd z (by show ¬ ((S.seen ++ [b]).length : Int) < 0; omega)
          rcases hout with ⟨h8, rfl, rfl⟩ | ⟨x, hx, h8, hj, rfl, rfl⟩ | ⟨x, pl, pp, hx, h8, hj, rfl, rfl, npp, epp, pnb⟩
          · have hc : S.en < 0 ∨ ((S.seen ++ [b]).length : Int) - 8 ≤ S.en := by
              by_cases z : S.en < 0
              · exact .inl z
              · have := h8 (bh, (S.seen ++ [b]).drop S.en.toNat) (if_neg z)
                rw [show ((bh, (S.seen ++ [b]).drop S.en.toNat) : Addr × List Int).2 = (S.seen ++ [b]).drop S.en.toNat from rfl, List.length_drop] at this
                omega
            rw [if_pos hc] at q
            exact q H5 p3 nb .non mv n03 hnb (en0 _) (rd _ rfl) rfl
          · have hz : ¬ S.en < 0 := fun z => by
              rw [if_pos z] at hx
              cases hx
            rw [if_neg hz] at hx
            cases hx
            have h8 : 8 < ((S.seen ++ [b]).drop S.en.toNat).length := h8
            have hj : judge (((S.seen ++ [b]).drop S.en.toNat).take (((S.seen ++ [b]).drop S.en.toNat).length - 8)) = none := hj
            rw [List.length_drop] at h8 hj
            rw [if_neg (fun c => c.elim hz (fun c => by omega)), show (S.seen ++ [b]).length - 8 - S.en.toNat = (S.seen ++ [b]).length - S.en.toNat - 8 by omega, hj] at q
            exact q H5 p3 nb .non mv n03 hnb (en0 _) (rd _ rfl) rfl
          · have hz : ¬ S.en < 0 := fun z => by
              rw [if_pos z] at hx
              cases hx
            rw [if_neg hz] at hx
            cases hx
            have h8 : 8 < ((S.seen ++ [b]).drop S.en.toNat).length := h8
            have hj : judge (((S.seen ++ [b]).drop S.en.toNat).take (((S.seen ++ [b]).drop S.en.toNat).length - 8)) = some pl := hj
            rw [List.length_drop] at h8 hj
            rw [if_neg (fun c => c.elim hz (fun c => by omega)), show (S.seen ++ [b]).length - 8 - S.en.toNat = (S.seen ++ [b]).length - S.en.toNat - 8 by omega, hj] at q
            exact q H5 p3 nb (.ref pp) mv n03 hnb (en0 _) (rd _ rfl) ⟨pp, rfl, mv4.al _ npp, epp, (ne_of_none el4 npp).symm, pnb⟩
      · have hm : ¬ lastOf (S.seen ++ [b]) = markL := fun y => e (decide_eq_true y)
        rw [if_neg hm] at q
        unfold tNext
        dsimp only
        refine if_by (J := fun σ1 H5 => ∃ bh', σ1 = [some (.ref r), some (.int b)] ∧ Mv2 r bh H H5 ∧ (bh' = r ∨ bh' = bh) ∧ ((if 0 ≤ S.en ∧ 400 < ((S.seen ++ [b]).length : Int) - S.en then (⟨S.seen ++ [b], -1, S.hurt + 1⟩ : LS) else ⟨S.seen ++ [b], S.en, S.hurt⟩).en < 0 → bh' = r) ∧ Rdr C r p3 bh' (if 0 ≤ S.en ∧ 400 < ((S.seen ++ [b]).length : Int) - S.en then ⟨S.seen ++ [b], -1, S.hurt + 1⟩ else ⟨S.seen ++ [b], S.en, S.hurt⟩) H5) ?_ (fun rest => ?_)
        · rintro σ1 H5 ⟨bh', rfl, mv5, hb5, ho5, rd5⟩
          have hb5' : bh' = r ∨ bh' = bh ∨ H bh' = none := hb5.elim .inl (fun z => .inr (.inl z))
          by_cases c : 0 ≤ S.en ∧ 400 < ((S.seen ++ [b]).length : Int) - S.en
          · rw [if_pos c] at q rd5 ho5
            exact q H5 p3 bh' .non mv5 n03 hb5' ho5 rd5 rfl
          · rw [if_neg c] at q rd5 ho5
            exact q H5 p3 bh' .non mv5 n03 hb5' ho5 rd5 rfl
        · by_cases z : S.en < 0
          · rw [if_pos z] at er4
            refine ⟨_, rfl, r, C, dx, _, _, rfl, er4, R.cls, R.nb, rfl, rfl, _, rfl, iteF ?_⟩
            refine iteF (rest _ _ ⟨bh, rfl, mv4, .inr rfl, ?_, ?_⟩)
            · rw [if_neg (fun y => by omega)]
              exact fun _ => hown z
            · rw [if_neg (fun y => by omega)]
              refine ⟨⟨dx, ?_⟩, el4, fun y => absurd y (by show ¬ 0 ≤ S.en; omega)⟩
              rw [if_pos z]
              exact er4
          · rw [if_neg z] at er4
            have z0 : 0 ≤ S.en := by omega
            refine ⟨_, rfl, r, C, dx, _, _, rfl, er4, R.cls, R.nb, rfl, rfl, _, rfl, iteT ?_⟩
            refine ⟨_, rfl, r, C, dx, _, _, rfl, er4, R.cls, R.nb, rfl, bh, _, rfl, .inl (SqL.of (eb4 z0)), _, _, rfl, rfl, _, rfl, ite2 (fun e1 => ?_) (fun e1 => ?_)⟩
            · have h4 : 400 < ((S.seen ++ [b]).length : Int) - S.en := by
                have := of_decide_eq_true e1
                rw [List.length_map, List.length_drop] at this
                omega
              rw [if_pos ⟨z0, h4⟩] at rest
              refine ⟨_, rfl, r, C, dx, _, _, rfl, er4, R.cls, R.ns, rfl, _, _, rfl, rfl, dx, _, er4, (by show 3 < 1000; decide), ?_⟩
              have eput2 : putF "spoilt" (.int ((S.hurt : Int) + 1)) (rdF p3 (.ref bh) S.hurt) = rdF p3 (.ref bh) (S.hurt + 1) := rfl
              rw [eput2]
              refine ⟨_, rfl, r, C, dx, _, rfl, upd_same, R.cls, R.nb, (by show 3 < 1000; decide), ?_⟩
              have eput3 : putF "behind" .non (rdF p3 (.ref bh) (S.hurt + 1)) = rdF p3 .non (S.hurt + 1) := rfl
              rw [eput3, upd_upd]
              refine rest _ _ ⟨r, rfl, ⟨fun a o n1 n2 e => by rw [upd_ne n1]; exact mv4.kp a o n1 n2 e, al_upd mv4.al⟩, .inl rfl, fun _ => rfl, ⟨dx, ?_⟩, ?_, fun y => absurd y (by show ¬ (0 : Int) ≤ -1; decide)⟩
              · rw [upd_same]
                rfl
              · rw [upd_ne r3]
                exact el4
            · have h4 : ¬ 400 < ((S.seen ++ [b]).length : Int) - S.en := fun y => e1 (decide_eq_true (by
                rw [List.length_map, List.length_drop]
                omega))
              rw [if_neg (fun c => h4 c.2)] at rest
              refine rest _ _ ⟨bh, rfl, mv4, .inr rfl, fun y => absurd y (by show ¬ S.en < 0; omega), ⟨dx, ?_⟩, el4, fun _ => ⟨eb4 z0, (b3 z0).symm⟩⟩
              rw [if_neg z]
              exact er4
    · by_cases z : S.en < 0
      · rw [if_pos z] at er1
        refine ⟨_, rfl, r, C, dx, _, _, rfl, er1, R.cls, R.nb, rfl, rfl, _, rfl, iteF ?_⟩
        exact rest _ _ ⟨rfl, ⟨fun a o n1 _ e => hm1 a o n1 e, al1⟩, (by rw [if_pos z]; exact er1), el1, fun y => absurd y (by omega)⟩
      · rw [if_neg z] at er1
        have z0 : 0 ≤ S.en := by omega
        have eb1 := hm1 _ _ (br z0) (hbh z0).1
        refine ⟨_, rfl, r, C, dx, _, _, rfl, er1, R.cls, R.nb, rfl, rfl, _, rfl, iteT ?_⟩
        refine ⟨_, rfl, r, C, dx, _, _, rfl, er1, R.cls, R.nb, rfl, .inl ⟨rfl, _, SqL.of eb1⟩, _, rfl, bh, _, _, rfl, rfl, eb1, ?_, ?_⟩
        · rw [List.length_map, List.length_drop]
          exact sz4l (by omega)
        have em2 : (S.seen.drop S.en.toNat).map V.int ++ [V.int b] = ((S.seen ++ [b]).drop S.en.toNat).map V.int := by
          have hle : S.en.toNat ≤ S.seen.length := by
            rcases hok.2 with y | ⟨_, y⟩ <;> omega
          rw [List.drop_append_of_le_length hle, List.map_append]
          rfl
        rw [em2]
        refine rest _ _ ⟨rfl, ⟨fun a o n1 n2 e => by rw [upd_ne n2]; exact hm1 a o n1 e, al_upd al1⟩, by rw [upd_ne (br z0).symm, if_neg z]; exact er1, by rw [upd_ne (b3 z0).symm]; exact el1, fun _ => upd_same⟩
theorem sc_Reader_take : FnScope ["self", "bits", "payloads", "bit", "payload"] ["self", "bits"] (defScope m_Reader_take) := ⟨rfl, rfl, rfl, by decide +kernel, rfl, by decide +kernel, by decide +kernel⟩
/-- what a reader tells, and how it stands then -/
def spTake (C cB : Addr) : Sp := fun vs H Q E => ∃ (r l bh : Addr) (S : LS) (a : Addr) (ns : List Int), vs = [.ref r, .ref a] ∧ RdP C r l bh S H ∧ H a = some (.lst (ns.map V.int)) ∧ a ≠ bh ∧ S.seen.length + ns.length ≤ 9000 ∧
  (Bits ns → ∀ (H' : Hp) (l' bh' pl : Addr) (ps : List Addr), MvF [r, bh] H H' → (∀ p ∈ [r, l', bh'], p ∈ [r, l, bh] ∨ H p = none) → RdP C r l' bh' (hall S ns).1 H' → H' pl = some (.lst (ps.map V.ref)) → RowsAt H' ps (hall S ns).2 → (∀ p ∈ pl :: ps, H p = none ∧ p ∉ [r, l', bh']) → pl ∉ ps → Q (.ref pl) H') ∧
  (∀ (i : Nat) (z : Int), ns[i]? = some z → ¬ isB z → Bits (ns.take i) → ∀ H' d, Same H H' → H d = none → H' d = some (.xd [(("at" : Str), .int (i : Int)), (("word" : Str), .str "BadBit")]) → E (.ref cB) (some d) H')
theorem ok_Reader_take {f C cB : Addr} {fd : FuncData} {k : Nat} (F : Fun K "take" "Reader.take" m_Reader_take f fd) (R : RdC K C) (c_check_bits : CalX P w K mg base k "check_bits" ["bits"] (spCheckX K cB))
    (c_Reader_take_bit : CalM CX0 P w K mg base k C "take_bit" ["self", "bit"] (spTb C)) : FnOk P w K mg base (L2.CX P w) (k + 1) f fd ["self", "bits"] (spTake C cB) := by
  have sc := sc_Reader_take
  refine F.okX sc (fun vs H Q E h => ?_) (fun cdv A outer s H vs Q E hr h => ?_)
  · obtain ⟨r, l, bh, S, a, ns, rfl, _⟩ := h
    rfl
  · obtain ⟨r, l, bh, S, a, ns, rfl, hrd, ha, nab, hlen, q, qe⟩ := h
    refine ⟨_, (pss_cons (ps_expr (pe_callP c_check_bits hr (passes_call (takes_of rfl rfl rfl rfl) (fun _ _ _ _ h => h)) (by rfl) (pa_cons (pv 1) pa_nil)))
 (pss_cons (ps_set (i := 2) sc.nd rfl (.inl rfl) (pe_lst pa_nil))
 (pss_cons (ps_for (passes_of rfl) rfl (pi_listK K rfl (pv 1)) (pg_name (i := 3) sc.nd rfl (.inl rfl))
  (pss_cons (ps_set (i := 4) sc.nd rfl (.inl rfl) (pe_methC (pv 0) c_Reader_take_bit hr (pa_cons (pv 3) pa_nil)))
 (pss_one (ps_if (pt_cmpR op_notN (pv 4) pe_non (nomark _))
  (pss_one (ps_expr (pe_bmK K rfl PySem.F.plainAttrs_list PySem.F.slot_list_append PySem.F.type_list_append mt_append (pv 2) (pa_cons (pv 4) pa_nil))))
  pss_nil))))
 (pss_one (ps_ret (pv 2)))))), ?_⟩
    refine ⟨_, rfl, a, ns, rfl, SqL.of ha, by omega, fun hB H1 s1 => ?_, qe⟩
    refine ⟨Nat.zero_le _, fun pl npl => ?_⟩
    have npl0 : H pl = none := s1.free npl
    have s2 := s1.trans (same_upd (o := .lst []) npl)
    have nar : a ≠ r := fun z => by
      obtain ⟨⟨⟨dx, e1⟩, _⟩, _⟩ := hrd
      rw [z, e1] at ha
      cases ha
    refine ⟨_, rfl, a, rfl, ⟨_, SqL.of (s2 _ _ ha)⟩, for_list (K := K) (a := a) (xs := ns.map V.int) (fun i σ H' => ∃ (l' bh' : Addr) (ps : List Addr) (y3 y4 : Option V), σ = [some (.ref r), some (.ref a), some (.ref pl), y3, y4] ∧ MvF [r, bh] H H' ∧ (l' = l ∨ H l' = none) ∧ (bh' = r ∨ bh' = bh ∨ H bh' = none) ∧ RdP C r l' bh' (hall S (ns.take i)).1 H' ∧
        H' pl = some (.lst (ps.map V.ref)) ∧ RowsAt H' ps (hall S (ns.take i)).2 ∧ (∀ p ∈ pl :: ps, H p = none ∧ p ∉ [r, l', bh']) ∧ pl ∉ ps)
      ⟨l, bh, [], none, none, rfl, .of s2, .inl rfl, .inr (.inl rfl), hrd.loc (fun p _ o e => s2 _ _ e), upd_same, trivial, (fun p hp => ?_), List.not_mem_nil⟩ (fun i σ H' _ h => ?_) ?_ ?_⟩
    · rw [List.mem_singleton.mp hp]
      refine ⟨npl0, fun z => ?_⟩
      rcases in3 z with z | z | z
      · exact hrd.al.1 (z ▸ npl0)
      · exact hrd.al.2.1 (z ▸ npl0)
      · exact hrd.al.2.2 (z ▸ npl0)
    · obtain ⟨l', bh', ps, y3, y4, _, mv, _⟩ := h
      exact SqL.of (mv.kp _ _ (fun z => (in2 z).elim nar nab) ha)
    · rintro i x σ H2 hx ⟨l', bh', ps, y3, y4, rfl, mv, hl', hb', hrd', epl, hrows, hnew, hnin⟩
      obtain ⟨z, hz, rfl⟩ := getI hx
      have hil : i < ns.length := (List.getElem?_eq_some_iff.mp hz).1
      have hmore := hall_more (S := S) hz
      have hseen := hall_seen S ns i (by omega)
      have hsl : ((hall S (ns.take i)).1.seen).length < 9000 := by
        rw [hseen, List.length_append, List.length_take]
        omega
      obtain ⟨hR, hok, hown⟩ := id hrd'
      obtain ⟨dx, hins⟩ := hR.ins
      refine ⟨_, rfl, r, dx, _, rfl, hins, rfl, _, rfl, r, l', bh', (hall S (ns.take i)).1, z, rfl, hB z (List.mem_of_getElem? hz), hR, hok, hown, hsl, fun H3 l2 bh2 v m2 nl2 hb2 ho2 rd2 ht => ?_⟩
      have ok2 := hstep_ok hok (hB z (List.mem_of_getElem? hz))
      have plr : ∀ p ∈ pl :: ps, p ≠ r ∧ p ≠ l' ∧ p ≠ bh' := fun p hp => ⟨fun y => (hnew p hp).2 (y ▸ .head _), fun y => (hnew p hp).2 (y ▸ .tail _ (.head _)), fun y => (hnew p hp).2 (y ▸ .tail _ (.tail _ (.head _)))⟩
      have pal : ∀ p ∈ pl :: ps, H2 p ≠ none := fun p hp => by
        rcases List.mem_cons.mp hp with rfl | hp
        · rw [epl]
          exact fun z => nomatch z
        · exact RowsAt.al hrows p hp
      have pn2 : ∀ p ∈ pl :: ps, p ∉ [r, l2, bh2] := fun p hp => ni3 (plr p hp).1 (fun y => pal p hp (y ▸ nl2)) (fun y => by
        rcases hb2 with w | w | w
        · exact (plr p hp).1 (y.trans w)
        · exact (plr p hp).2.2 (y.trans w)
        · exact pal p hp (y ▸ w))
      have mv3 : MvF [r, bh] H H3 := mv.trans2 m2.f (fun p hp => by
        rcases in2 hp with rfl | rfl
        · exact .inl (.head _)
        · rcases hb' with rfl | rfl | y
          · exact .inl (.head _)
          · exact .inl (.tail _ (.head _))
          · exact .inr y)
      have hl2 : l2 = l ∨ H l2 = none := .inr (mv.al _ nl2)
      have hb2' : bh2 = r ∨ bh2 = bh ∨ H bh2 = none := by
        rcases hb2 with w | w | w
        · exact .inl w
        · rw [w]
          exact hb'
        · exact .inr (.inr (mv.al _ w))
      have epl3 : H3 pl = some (.lst (ps.map V.ref)) := m2.kp _ _ (plr pl (.head _)).1 (plr pl (.head _)).2.2 epl
      have hrows3 : RowsAt H3 ps (hall S (ns.take i)).2 := RowsAt.loc (fun p hp o e => m2.kp _ _ (plr p (.tail _ hp)).1 (plr p (.tail _ hp)).2.2 e) hrows
      refine ⟨_, rfl, rfl, _, rfl, ?_⟩
      cases eo : (hstep (hall S (ns.take i)).1 z).2 with
      | none =>
        rw [eo] at ht
        have ht : v = .non := ht
        subst ht
        refine iteF ⟨l2, bh2, ps, _, _, rfl, mv3, hl2, hb2', ?_, epl3, ?_, fun p hp => ⟨(hnew p hp).1, pn2 p hp⟩, hnin⟩
        · rw [hmore]
          exact ⟨rd2, ok2, ho2⟩
        · rw [hmore, eo]
          show RowsAt H3 ps ((hall S (ns.take i)).2 ++ [])
          rw [List.append_nil]
          exact hrows3
      | some pr =>
        rw [eo] at ht
        obtain ⟨pp, rfl, npp, epp, ppl, ppb⟩ := ht
        have ppr : pp ≠ r := fun y => hrd'.al.1 (y ▸ npp)
        have pppl : pl ≠ pp := ne_of_none epl npp
        refine iteT ⟨_, rfl, .inl ⟨rfl, _, SqL.of epl3⟩, _, rfl, pl, _, _, rfl, rfl, epl3, ?_, ?_⟩
        · rw [List.length_map, RowsAt.len hrows]
          have := hall_len S ns i (by omega)
          exact sz4l (by omega)
        have em : ps.map V.ref ++ [V.ref pp] = (ps ++ [pp]).map V.ref := by rw [List.map_append]; rfl
        rw [em]
        have pl2 := plr pl (.head _)
        have pln := pn2 pl (.head _)
        have kp : ∀ p o, p ≠ pl → H3 p = some o → upd H3 pl (.lst ((ps ++ [pp]).map V.ref)) p = some o := fun p o n e => by
          rw [upd_ne n]
          exact e
        refine ⟨l2, bh2, ps ++ [pp], _, _, rfl, ⟨fun p o n e => ?_, al_upd mv3.al⟩, hl2, hb2', ?_, upd_same, ?_, fun p hp => ?_, ?_⟩
        · exact kp p o (ne_of_none e npl0) (mv3.kp p o n e)
        · rw [hmore]
          have w : RdP C r l2 bh2 (hstep (hall S (ns.take i)).1 z).1 H3 := ⟨rd2, ok2, ho2⟩
          exact w.loc (fun p hp o e => kp p o (fun y => pln (y ▸ hp)) e)
        · rw [hmore, eo]
          show RowsAt _ (ps ++ [pp]) ((hall S (ns.take i)).2 ++ [pr])
          refine RowsAt.snoc (kp _ _ pppl.symm epp) (RowsAt.loc (fun p hp o e => kp p o (fun y => hnin (y ▸ hp)) e) hrows3)
        · rcases List.mem_cons.mp hp with rfl | hp
          · exact ⟨npl0, pln⟩
          rcases List.mem_append.mp hp with hp | hp
          · exact ⟨(hnew p (.tail _ hp)).1, pn2 p (.tail _ hp)⟩
          · rw [List.mem_singleton.mp hp]
            exact ⟨mv.al _ npp, ni3 ppr ppl ppb⟩
        · intro hp
          rcases List.mem_append.mp hp with hp | hp
          · exact hnin hp
          · exact pppl (List.mem_singleton.mp hp)
    · rintro σ H2 ⟨l', bh', ps, y3, y4, rfl, mv, hl', hb', hrd', epl, hrows, hnew, hnin⟩
      rw [List.length_map, List.take_length] at hrd' hrows
      refine ⟨_, rfl, q hB H2 l' bh' pl ps mv (fun p hp => ?_) hrd' epl hrows hnew hnin⟩
      rcases in3 hp with rfl | rfl | rfl
      · exact .inl (.head _)
      · rcases hl' with rfl | y
        · exact .inl (.tail _ (.head _))
        · exact .inr y
      · rcases hb' with rfl | rfl | y
        · exact .inl (.head _)
        · exact .inl (.tail _ (.tail _ (.head _)))
        · exact .inr y
/-! ### the ring -/
def fold (n : Int) : Int := (n + 128) % 256 - 128
def apartI (a b : Int) : Int := if fold (a - b) < 0 then - fold (a - b) else fold (a - b)
def spFolded : Sp := fun vs H Q _ => ∃ (n : Int), vs = [.int n] ∧ Q (.int (fold n)) H
def spApart : Sp := fun vs H Q _ => ∃ (a b : Int), vs = [.int a, .int b] ∧ Q (.int (apartI a b)) H
theorem fold_shift (n k : Int) : fold (n + 256 * k) = fold n := by unfold fold; omega
theorem fold_fold (n : Int) : fold (fold n) = fold n := by unfold fold; omega
theorem apart_comm (a b : Int) : apartI a b = apartI b a := by
  unfold apartI fold
  split <;> split <;> omega
theorem apart_fold (a b : Int) : apartI (fold a) b = apartI a b := by
  have : fold (fold a - b) = fold (a - b) := by unfold fold; omega
  unfold apartI
  rw [this]
theorem apart_law (a b : Int) : (if 256 - (if a - b < 0 then -(a - b) else a - b) % 256 < (if a - b < 0 then -(a - b) else a - b) % 256 then 256 - (if a - b < 0 then -(a - b) else a - b) % 256 else (if a - b < 0 then -(a - b) else a - b) % 256) = apartI a b := by
  unfold apartI fold
  generalize a - b = d
  split <;> split <;> split <;> omega
theorem apart_le (a b : Int) : 0 ≤ apartI a b ∧ apartI a b ≤ 128 := by
  unfold apartI fold
  split <;> omega
/-! ### points -/
def okR (r : Int) : Prop := 1 ≤ r ∧ r ≤ 4
instance decOkR (r : Int) : Decidable (okR r) := inferInstanceAs (Decidable (1 ≤ r ∧ r ≤ 4))
def ptsI (r : Int) : Int := 4 * 2 ^ (r - 1).toNat
def stepI (r : Int) : Int := 256 / ptsI r
def pointI (n r : Int) : Int := stepI r / 2 - 256 / 2 + n * stepI r
theorem okR_cases {r : Int} (h : okR r) : r = 1 ∨ r = 2 ∨ r = 3 ∨ r = 4 := by
  obtain ⟨h1, h2⟩ := h
  omega
theorem pts_step {r : Int} (h : okR r) : (r = 1 ∧ ptsI r = 4 ∧ stepI r = 64) ∨ (r = 2 ∧ ptsI r = 8 ∧ stepI r = 32) ∨ (r = 3 ∧ ptsI r = 16 ∧ stepI r = 16) ∨ (r = 4 ∧ ptsI r = 32 ∧ stepI r = 8) := by
  rcases okR_cases h with rfl | rfl | rfl | rfl
  · exact .inl ⟨rfl, by decide, by decide⟩
  · exact .inr (.inl ⟨rfl, by decide, by decide⟩)
  · exact .inr (.inr (.inl ⟨rfl, by decide, by decide⟩))
  · exact .inr (.inr (.inr ⟨rfl, by decide, by decide⟩))
theorem rate_in (r : Int) : inV (.int r) [.int 1, .int 2, .int 3, .int 4] = decide (okR r) := by
  have h := inV_ints r [1, 2, 3, 4]
  have e : ([1, 2, 3, 4] : List Int).map V.int = [.int 1, .int 2, .int 3, .int 4] := rfl
  rw [e] at h
  rw [h]
  refine decide_eq_decide.mpr ⟨fun hm => ?_, fun hm => ?_⟩
  · simp only [List.mem_cons, List.not_mem_nil, or_false] at hm
    unfold okR
    omega
  · rcases okR_cases hm with rfl | rfl | rfl | rfl <;> simp
/-- a refusal without a value -/
def Ref0 (C : Addr) (nm : Str) (H : Hp) (E : XK) : Prop := ∀ (H' : Hp) (d : Addr), Same H H' → H d = none → H' d = some (.xd [(("word" : Str), .str nm)]) → E (.ref C) (some d) H'
theorem Ref0.same {C : Addr} {nm : Str} {H H1 : Hp} {E : XK} (h : Ref0 C nm H E) (s : Same H H1) : Ref0 C nm H1 E := fun H' d s' n e => h H' d (s.trans s') (s.free n) e
def spCR (cR : Addr) : Sp := fun vs H Q E => ∃ (r : Int), vs = [.int r] ∧ (okR r → Q .non H) ∧ (¬ okR r → Ref0 cR "BadRate" H E)
def spPA (cR : Addr) : Sp := fun vs H Q E => ∃ (r : Int), vs = [.int r] ∧ (okR r → Q (.int (ptsI r)) H) ∧ (¬ okR r → Ref0 cR "BadRate" H E)
def spStep (cR : Addr) : Sp := fun vs H Q E => ∃ (r : Int), vs = [.int r] ∧ (okR r → Q (.int (stepI r)) H) ∧ (¬ okR r → Ref0 cR "BadRate" H E)
def spPoint (cN cR : Addr) : Sp := fun vs H Q E => ∃ (n r : Int), vs = [.int n, .int r] ∧ (okR r → 0 ≤ n → n < ptsI r → Q (.int (pointI n r)) H) ∧ (okR r → (n < 0 ∨ ptsI r ≤ n) → Ref0 cN "BadCount" H E) ∧ (¬ okR r → Ref0 cR "BadRate" H E)
theorem sc_folded : FnScope ["number", "half"] ["number"] (defScope s_folded) := ⟨rfl, rfl, rfl, by decide +kernel, rfl, by decide +kernel, by decide +kernel⟩
theorem ok_folded {f : Addr} {fd : FuncData} {k : Nat} {tR : Tok} (F : Fun K "folded" "folded" s_folded f fd) (g_RING : mg "RING" = some (.int 256 tR)) : FnOk P w K mg base CX0 (k + 1) f fd ["number"] spFolded := by
  have sc := sc_folded
  refine F.ok sc (fun vs H Q E h => ?_) (fun cdv A outer s H vs Q E hr h => ?_)
  · obtain ⟨n, rfl, _⟩ := h
    rfl
  · obtain ⟨n, rfl, q⟩ := h
    refine ⟨_, (pss_cons (ps_set (i := 1) sc.nd rfl (.inl rfl) (pe_op op_fdiv (pe_glob (v := .int 256) (by rfl) g_RING ⟨_, rfl⟩) pe_int))
 (pss_one (ps_ret (pe_op op_sub (pe_op op_mod (pe_op op_add (pv 0) (pv 1)) (pe_glob (v := .int 256) (by rfl) g_RING ⟨_, rfl⟩)) (pv 1))))), ?_⟩
    refine ⟨_, _, rfl, rfl, ⟨by decide, by decide⟩, ?_⟩
    exact ⟨_, rfl, _, rfl, _, _, rfl, rfl, _, _, rfl, rfl, (by show (0 : Int) < 256; decide), _, rfl, _, _, rfl, rfl, q⟩
theorem sc_check_rate : FnScope ["rate"] ["rate"] (defScope s_check_rate) := ⟨rfl, rfl, rfl, by decide +kernel, rfl, by decide +kernel, by decide +kernel⟩
theorem ok_check_rate {f cR a_RATES : Addr} {fd : FuncData} {k : Nat} (F : Fun K "check_rate" "check_rate" s_check_rate f fd) (g_RATES : mg "RATES" = some (.ref a_RATES)) (h_RATES : ∀ H, SqT K H a_RATES [.int 1, .int 2, .int 3, .int 4]) (x_BadRate : XcOk P w K mg base k "BadRate" cR (spIni0 K cR "BadRate")) : FnOk P w K mg base (L2.CX P w) (k + 2) f fd ["rate"] (spCR cR) := by
  have sc := sc_check_rate
  refine F.okX sc (fun vs H Q E h => ?_) (fun cdv A outer s H vs Q E hr h => ?_)
  · obtain ⟨r, rfl, _⟩ := h
    rfl
  · obtain ⟨r, rfl, q, qe⟩ := h
    refine ⟨_, (pss_one (ps_if (pt_cmpR (op_notInK K rfl) (pv 0) (pe_glob (v := .ref a_RATES) (by rfl) g_RATES rfl) (by rfl))
  (pss_one (ps_raise rfl (takes_of rfl rfl rfl rfl) (pmk_c0 x_BadRate hr (by rfl))))
  pss_nil)), ?_⟩
    refine ⟨_, rfl, a_RATES, _, rfl, .inr (h_RATES H), rfl, rfl, _, rfl, ite2 (fun e => ?_) (fun e => ?_)⟩
    · have e : (!inV (.int r) [.int 1, .int 2, .int 3, .int 4]) = true := e
      rw [rate_in] at e
      have nr : ¬ okR r := fun z => by rw [decide_eq_true z] at e; cases e
      exact mk_inner0 (fun H3 d s3 nd ed => qe nr H3 d s3 nd ed)
    · have e : ¬ (!inV (.int r) [.int 1, .int 2, .int 3, .int 4]) = true := e
      rw [rate_in] at e
      exact q (by
        by_cases z : okR r
        · exact z
        · rw [decide_eq_false z] at e
          exact absurd rfl e)
theorem sc_points_at : FnScope ["rate"] ["rate"] (defScope s_points_at) := ⟨rfl, rfl, rfl, by decide +kernel, rfl, by decide +kernel, by decide +kernel⟩
theorem ok_points_at {f cR : Addr} {fd : FuncData} {k : Nat} {tF : Tok} (F : Fun K "points_at" "points_at" s_points_at f fd) (g_FEWEST_POINTS : mg "FEWEST_POINTS" = some (.int 4 tF)) (c_check_rate : CalX P w K mg base k "check_rate" ["rate"] (spCR cR)) : FnOk P w K mg base (L2.CX P w) (k + 1) f fd ["rate"] (spPA cR) := by
  have sc := sc_points_at
  refine F.okX sc (fun vs H Q E h => ?_) (fun cdv A outer s H vs Q E hr h => ?_)
  · obtain ⟨r, rfl, _⟩ := h
    rfl
  · obtain ⟨r, rfl, q, qe⟩ := h
    refine ⟨_, (pss_cons (ps_expr (pe_callP c_check_rate hr (passes_call (takes_of rfl rfl rfl rfl) (fun _ _ _ _ h => h)) (by rfl) (pa_cons (pv 0) pa_nil)))
 (pss_one (ps_ret (pe_op op_shl (pe_glob (v := .int 4) (by rfl) g_FEWEST_POINTS ⟨_, rfl⟩) (pe_op op_sub (pv 0) pe_int))))), ?_⟩
    refine ⟨_, rfl, r, rfl, (fun ok => ?_), qe⟩
    exact ⟨_, rfl, _, _, rfl, rfl, _, _, rfl, rfl, ⟨by have := ok.1; omega, by have := ok.2; omega, by decide⟩, q ok⟩
theorem sc_step : FnScope ["rate"] ["rate"] (defScope s_step) := ⟨rfl, rfl, rfl, by decide +kernel, rfl, by decide +kernel, by decide +kernel⟩
theorem ok_step {f cR : Addr} {fd : FuncData} {k : Nat} {tR : Tok} (F : Fun K "step" "step" s_step f fd) (g_RING : mg "RING" = some (.int 256 tR)) (c_points_at : CalX P w K mg base k "points_at" ["rate"] (spPA cR)) : FnOk P w K mg base (L2.CX P w) (k + 1) f fd ["rate"] (spStep cR) := by
  have sc := sc_step
  refine F.okX sc (fun vs H Q E h => ?_) (fun cdv A outer s H vs Q E hr h => ?_)
  · obtain ⟨r, rfl, _⟩ := h
    rfl
  · obtain ⟨r, rfl, q, qe⟩ := h
    refine ⟨_, (pss_one (ps_ret (pe_op op_fdiv (pe_glob (v := .int 256) (by rfl) g_RING ⟨_, rfl⟩) (pe_callP c_points_at hr (passes_call (takes_of rfl rfl rfl rfl) (fun _ _ _ _ h => h)) (by rfl) (pa_cons (pv 0) pa_nil))))), ?_⟩
    refine ⟨_, rfl, r, rfl, (fun ok => ?_), qe⟩
    refine ⟨_, _, rfl, rfl, ?_, q ok⟩
    rcases pts_step ok with ⟨_, e, _⟩ | ⟨_, e, _⟩ | ⟨_, e, _⟩ | ⟨_, e, _⟩ <;> rw [e] <;> exact ⟨by decide, by decide⟩
theorem sc_point : FnScope ["number", "rate", "many", "wide"] ["number", "rate"] (defScope s_point) := ⟨rfl, rfl, rfl, by decide +kernel, rfl, by decide +kernel, by decide +kernel⟩
theorem ok_point {f cN cR : Addr} {fd : FuncData} {k : Nat} {kws : List (Str × V)} {tR : Tok} (F : FunD K "point" "point" (defArgs s_point) (defBody s_point) (defScope s_point) [] kws f fd) (g_RING : mg "RING" = some (.int 256 tR)) (x_BadCount : XcOk P w K mg base k "BadCount" cN (spIni0 K cN "BadCount")) (c_points_at : CalX P w K mg base (k + 1) "points_at" ["rate"] (spPA cR)) (c_step : CalX P w K mg base (k + 1) "step" ["rate"] (spStep cR)) :
    FnOk P w K mg base (L2.CX P w) (k + 2) f fd ["number", "rate"] (spPoint cN cR) := by
  have sc := sc_point
  refine F.ok sc (fun vs H Q E h => ?_) (fun cdv A outer s H vs Q E hr h => ?_)
  · obtain ⟨n, r, rfl, _⟩ := h
    rfl
  · obtain ⟨n, r, rfl, q, qn, qe⟩ := h
    refine ⟨_, (pss_cons (ps_set (i := 2) sc.nd rfl (.inl rfl) (pe_callP c_points_at hr (passes_call (takes_of rfl rfl rfl rfl) (fun _ _ _ _ h => h)) (by rfl) (pa_cons (pv 1) pa_nil)))
 (pss_cons (ps_if (PW.pt (pw_or (pt_cmpR op_lt (pv 0) pe_int (nomark _)) (pw_or1 (pt_cmpR op_ge (pv 0) (pv 2) (nomark _)))))
  (pss_one (ps_raise rfl (takes_of rfl rfl rfl rfl) (pmk_c0 x_BadCount hr (by rfl))))
  pss_nil)
 (pss_cons (ps_set (i := 3) sc.nd rfl (.inl rfl) (pe_callP c_step hr (passes_call (takes_of rfl rfl rfl rfl) (fun _ _ _ _ h => h)) (by rfl) (pa_cons (pv 1) pa_nil)))
 (pss_one (ps_ret (pe_op op_add (pe_op op_sub (pe_op op_fdiv (pv 3) pe_int) (pe_op op_fdiv (pe_glob (v := .int 256) (by rfl) g_RING ⟨_, rfl⟩) pe_int)) (pe_op op_mul (pv 0) (pv 3)))))))), ?_⟩
    refine ⟨_, rfl, r, rfl, (fun ok => ?_), qe⟩
    refine ⟨_, rfl, _, _, rfl, rfl, _, rfl, ite2 (fun e => ?_) (fun e1 => ?_)⟩
    · have e : n < 0 := of_decide_eq_true e
      exact mk_inner0 (fun H3 d s3 nd ed => qn ok (.inl e) H3 d s3 nd ed)
    have e1 : ¬ n < 0 := fun h => e1 (decide_eq_true h)
    refine ⟨_, rfl, _, rfl, _, _, rfl, rfl, _, rfl, ite2 (fun e => ?_) (fun e2 => ?_)⟩
    · have e : ptsI r ≤ n := of_decide_eq_true e
      exact mk_inner0 (fun H3 d s3 nd ed => qn ok (.inr e) H3 d s3 nd ed)
    have e2 : ¬ ptsI r ≤ n := fun h => e2 (decide_eq_true h)
    refine ⟨_, rfl, r, rfl, (fun _ => ?_), (fun no => absurd ok no)⟩
    have hs : 0 ≤ stepI r ∧ stepI r < 100 := by rcases pts_step ok with ⟨_, _, e⟩ | ⟨_, _, e⟩ | ⟨_, _, e⟩ | ⟨_, _, e⟩ <;> rw [e] <;> decide
    exact ⟨_, rfl, _, _, rfl, rfl, ⟨by decide, by decide⟩, _, _, rfl, rfl, ⟨by decide, by decide⟩, _, _, rfl, rfl, _, rfl, _, rfl, _, _, rfl, rfl, .inr ⟨by omega, by omega⟩, _, _, rfl, rfl, q ok (by omega) (by omega)⟩
/-! ### shares: noughts at the end, what is left behind -/
def trimS : List Int → List Int
  | [] => []
  | x :: r => if trimS r = [] ∧ x = 0 then [] else x :: trimS r
theorem trimS_nil {l : List Int} : trimS l = [] ↔ ∀ x ∈ l, x = 0 := by
  induction l with
  | nil => exact ⟨fun _ x h => (by cases h), fun _ => rfl⟩
  | cons y r ih =>
    unfold trimS
    by_cases c : trimS r = [] ∧ y = 0
    · rw [if_pos c]
      refine ⟨fun _ x hx => ?_, fun _ => rfl⟩
      rcases List.mem_cons.mp hx with rfl | hx
      · exact c.2
      · exact ih.mp c.1 x hx
    · rw [if_neg c]
      refine ⟨fun h => (by cases h), fun h => absurd ⟨ih.mpr (fun x hx => h x (.tail _ hx)), h y (.head _)⟩ c⟩
theorem trimS_zero : ∀ l : List Int, trimS (l ++ [0]) = trimS l
  | [] => rfl
  | x :: r => by
    show (if trimS (r ++ [0]) = [] ∧ x = 0 then [] else x :: trimS (r ++ [0])) = _
    rw [trimS_zero r]
    rfl
theorem trimS_last {x : Int} (h : x ≠ 0) : ∀ l : List Int, trimS (l ++ [x]) = l ++ [x]
  | [] => by
    show (if ([] : List Int) = [] ∧ x = 0 then [] else x :: []) = [x]
    rw [if_neg (fun c => h c.2)]
  | y :: r => by
    show (if trimS (r ++ [x]) = [] ∧ y = 0 then [] else y :: trimS (r ++ [x])) = _
    rw [trimS_last h r, if_neg (fun c => by simp at c)]
    rfl
theorem trimS_sub : ∀ {l : List Int} {x : Int}, x ∈ trimS l → x ∈ l
  | [], x, h => by cases h
  | y :: r, x, h => by
    unfold trimS at h
    split at h
    · cases h
    · rcases List.mem_cons.mp h with rfl | h
      · exact .head _
      · exact .tail _ (trimS_sub h)
theorem trimS_len : ∀ l : List Int, (trimS l).length ≤ l.length
  | [] => Nat.le_refl _
  | y :: r => by
    unfold trimS
    have := trimS_len r
    split
    · exact Nat.zero_le _
    · show (trimS r).length + 1 ≤ r.length + 1
      omega
theorem trimS_idem : ∀ l : List Int, trimS (trimS l) = trimS l
  | [] => rfl
  | y :: r => by
    by_cases c : trimS r = [] ∧ y = 0
    · have e : trimS (y :: r) = [] := if_pos c
      rw [e]
      rfl
    · have e : trimS (y :: r) = y :: trimS r := if_neg c
      rw [e]
      show (if trimS (trimS r) = [] ∧ y = 0 then [] else y :: trimS (trimS r)) = _
      rw [trimS_idem r, if_neg c]
theorem trimS_all {G : Int → Prop} : ∀ {l : List Int}, (∀ x ∈ trimS l, G x) → G 0 → ∀ x ∈ l, G x
  | [], _, _, x, hx => absurd hx List.not_mem_nil
  | y :: r, h, h0, x, hx => by
    by_cases c : trimS r = [] ∧ y = 0
    · rcases List.mem_cons.mp hx with rfl | hx
      · rw [c.2]
        exact h0
      · rw [trimS_nil.mp c.1 x hx]
        exact h0
    · have e : trimS (y :: r) = y :: trimS r := if_neg c
      rw [e] at h
      rcases List.mem_cons.mp hx with rfl | hx
      · exact h _ (.head _)
      · exact trimS_all (fun z hz => h z (.tail _ hz)) h0 x hx
def small (x : Int) : Prop := -3 ≤ x ∧ x ≤ 3
/-- shares that are right -/
def okSh (l : List Int) : Prop := (trimS l).length ≤ 4 ∧ ∀ x ∈ trimS l, small x
theorem okSh_trim {l : List Int} (h : okSh l) : okSh (trimS l) := by
  unfold okSh
  rw [trimS_idem]
  exact h
/-- so many times each -/
def dotL (ws ns : List Int) : Int := (List.zipWith (· * ·) ws ns).sum
theorem dotL_cons (w n : Int) (ws ns : List Int) : dotL (w :: ws) (n :: ns) = w * n + dotL ws ns := rfl
theorem dotL_nil (ns : List Int) : dotL [] ns = 0 := rfl
theorem dotL_nil' : ∀ ws : List Int, dotL ws [] = 0
  | [] => rfl
  | _ :: _ => rfl
theorem dotL_zeros : ∀ (ws ns : List Int), (∀ x ∈ ws, x = 0) → dotL ws ns = 0
  | [], ns, _ => rfl
  | w :: ws, [], _ => rfl
  | w :: ws, n :: ns, h => by
    rw [dotL_cons, h w (.head _), dotL_zeros ws ns (fun x hx => h x (.tail _ hx))]
    omega
theorem dotL_trim : ∀ (ws ns : List Int), dotL (trimS ws) ns = dotL ws ns
  | [], ns => rfl
  | w :: ws, ns => by
    by_cases c : trimS ws = [] ∧ w = 0
    · have e : trimS (w :: ws) = [] := if_pos c
      rw [e, dotL_nil, dotL_zeros (w :: ws) ns]
      intro x hx
      rcases List.mem_cons.mp hx with rfl | hx
      · exact c.2
      · exact trimS_nil.mp c.1 x hx
    · have e : trimS (w :: ws) = w :: trimS ws := if_neg c
      rw [e]
      cases ns with
      | nil => rfl
      | cons n ns => rw [dotL_cons, dotL_cons, dotL_trim ws ns]
theorem dotL_take : ∀ (k : Nat) (ws ns : List Int), ws.length ≤ k → dotL ws (ns.take k) = dotL ws ns
  | _, [], ns, _ => rfl
  | 0, w :: ws, ns, h => absurd h (by simp)
  | k + 1, w :: ws, [], h => rfl
  | k + 1, w :: ws, n :: ns, h => by
    rw [List.take_succ_cons, dotL_cons, dotL_cons, dotL_take k ws ns (by simpa using h)]
abbrev z4 : List Int := [0, 0, 0, 0]
theorem sc_without_last_noughts : FnScope ["numbers", "end"] ["numbers"] (defScope s_without_last_noughts) := ⟨rfl, rfl, rfl, by decide +kernel, rfl, by decide +kernel, by decide +kernel⟩
def spWN (K : PySem.W.Frag) : Sp := fun vs H Q _ => ∃ (a : Addr) (k : Bool) (ns : List Int), vs = [.ref a] ∧ SqK K k H a (ns.map V.int) ∧ ns.length ≤ 10000 ∧ ∀ (H' : Hp) (t : Addr), Same H H' → SqT K H' t ((trimS ns).map V.int) → Q (.ref t) H'
theorem cut_all (xs : List V) (n : Nat) (h : xs.length ≤ n) : HT.sIx xs.length 0 none = 0 ∧ HT.sIx xs.length xs.length (some (n : Int)) = xs.length := by
  rw [HT.sIx_none, HT.sIx_nat]
  exact ⟨rfl, by omega⟩
theorem cut_not (xs : List V) (n : Nat) (h : n < xs.length) : ¬ (HT.sIx xs.length 0 none = 0 ∧ HT.sIx xs.length xs.length (some (n : Int)) = xs.length) := by
  rw [HT.sIx_nat]
  rintro ⟨_, e⟩
  omega
theorem ok_without_last_noughts {f : Addr} {fd : FuncData} {k : Nat} (F : Fun K "without_last_noughts" "without_last_noughts" s_without_last_noughts f fd) (n_len : mg "len" = none) (n_tuple : mg "tuple" = none) : FnOk P w K mg base CX0 (k + 1) f fd ["numbers"] (spWN K) := by
  have sc := sc_without_last_noughts
  refine F.ok sc (fun vs H Q E h => ?_) (fun cdv A outer s H vs Q E hr h => ?_)
  · obtain ⟨a, kk, ns, rfl, _⟩ := h
    rfl
  · obtain ⟨a, kk, ns, rfl, hS, hlen, q⟩ := h
    refine ⟨_, (pss_cons (ps_set (i := 1) sc.nd rfl (.inl rfl) (pe_callB (call_lenK K rfl) (by rfl) n_len PySem.boot_len (pa_cons (pv 0) pa_nil)))
 (pss_cons (ps_while PassesOwn.never (PW.pt (pw_and (pt_cmpR op_gt (pv 1) pe_int (nomark _)) (pw_and1 (pt_cmpR op_eq (pe_ix (ix_seqK K rfl) (pv 0) (pe_op op_sub (pv 1) pe_int) (fun _ _ => rfl)) pe_int (nomark _)))))
  (pss_one (ps_aug (i := 1) sc.nd rfl (.inl rfl) pe_int ip_sub)))
 (pss_one (ps_ret (pe_callTy (call_tupleK K rfl) (by rfl) n_tuple (by decide +kernel) (pa_cons (pe_slice (sl_anyK K rfl) (pv 0) po_none (po_some (pv 1))) pa_nil)))))), ?_⟩
    refine ⟨_, rfl, a, _, rfl, SqK.or hS, ?_⟩
    refine name_by ?_
    rw [List.length_map]
    dsimp only
    refine seq_by (J := fun σ1 H1 => ∃ n : Nat, σ1 = [some (.ref a), some (.int (n : Int))] ∧ H1 = H ∧ n ≤ ns.length ∧ ns.take n = trimS ns) ?_ (fun rest => ?_)
    · rintro σ1 H1 ⟨n, rfl, rfl, hn, hm⟩
      refine ⟨_, rfl, _, rfl, _, rfl, ?_⟩
      have ec : cutV (ns.map V.int) none (some (n : Int)) = (trimS ns).map V.int := by rw [cut_to_n, ← List.map_take, hm]
      cases kk with
      | true =>
        refine .inl ⟨a, _, rfl, hS, fun p np => ?_⟩
        rw [ec]
        have s1 := same_upd (o := .lst ((trimS ns).map V.int)) np
        exact ⟨p, _, rfl, .inl ⟨SqL.of upd_same, fun t nt => q _ t (s1.trans (same_upd nt)) (SqT.of upd_same)⟩⟩
      | false =>
        refine .inr ⟨a, _, rfl, hS, (fun hw => ?_), (fun hw p np => ?_)⟩
        · have e : n = ns.length := by
            have := hw.2
            rw [HT.sIx_nat, List.length_map] at this
            omega
          refine ⟨a, _, rfl, .inr ⟨hS, ?_⟩⟩
          rw [e, List.take_length] at hm
          exact q H1 a (Same.refl _) (by rw [← hm]; exact hS)
        · rw [ec]
          exact ⟨p, _, rfl, .inr ⟨SqT.of upd_same, q _ p (same_upd np) (SqT.of upd_same)⟩⟩
    · refine while_w (fun σ H' => ∃ n : Nat, σ = [some (.ref a), some (.int (n : Int))] ∧ H' = H ∧ n ≤ ns.length ∧ trimS (ns.take n) = trimS ns) (fun σ _ => match σ with | [_, some (.int n)] => n.toNat | _ => 0) ⟨ns.length, rfl, rfl, Nat.le_refl _, by rw [List.take_length]⟩ ?_
      rintro σ H1 ⟨n, rfl, rfl, hn, hm⟩
      refine ⟨_, rfl, _, _, rfl, rfl, _, rfl, ite2 (fun e => ?_) (fun e => ?_)⟩
      · have e : 0 < n := by have := of_decide_eq_true e; omega
        obtain ⟨m, rfl⟩ : ∃ m, n = m + 1 := ⟨n - 1, by omega⟩
        obtain ⟨x, hx⟩ := getElem?_ex (show m < ns.length by omega)
        have hx2 : (ns.map V.int)[m]? = some (.int x) := by rw [List.getElem?_map, hx]; rfl
        have em : ((m + 1 : Nat) : Int) - 1 = (m : Int) := by omega
        have hat : atI (ns.map V.int) (((m + 1 : Nat) : Int) - 1) = some (.int x) := by rw [em]; exact atI_nat hx2
        refine ⟨_, rfl, _, rfl, _, _, rfl, rfl, ix_by hS hat ⟨rfl, _, rfl, ite2 (fun e3 => ?_) (fun e3 => ?_)⟩⟩
        · have e3 : x = 0 := V.int.inj (of_decide_eq_true e3)
          refine ⟨wN _ _ _, wN_ok, ?_⟩
          refine ⟨_, rfl, _, _, rfl, rfl, ?_⟩
          refine ⟨⟨m, by dsimp only [List.set]; rw [em], rfl, by omega, ?_⟩, by show (((m + 1 : Nat) : Int) - 1).toNat < ((m + 1 : Nat) : Int).toNat; omega⟩
          rw [← hm, take_more hx, e3, trimS_zero]
        · have e3 : x ≠ 0 := fun y => e3 (decide_eq_true (by rw [y]))
          refine rest _ _ ⟨m + 1, rfl, rfl, hn, ?_⟩
          rw [← hm, take_more hx, trimS_last e3]
      · have e : n = 0 := by
          by_cases z : n = 0
          · exact z
          · exact absurd (decide_eq_true (by omega)) e
        subst e
        exact iteF (rest _ _ ⟨0, rfl, rfl, hn, by rw [← hm]; rfl⟩)
theorem sc_right_shares : FnScope ["numbers", "shares", "share"] ["numbers"] (defScope s_right_shares) := ⟨rfl, rfl, rfl, by decide +kernel, rfl, by decide +kernel, by decide +kernel⟩
def spRS (K : PySem.W.Frag) (cT : Addr) : Sp := fun vs H Q E => ∃ (a : Addr) (k : Bool) (ns : List Int), vs = [.ref a] ∧ SqK K k H a (ns.map V.int) ∧ ns.length ≤ 10000 ∧
  (okSh ns → ∀ (H' : Hp) (t : Addr), Same H H' → SqT K H' t ((trimS ns).map V.int) → Q (.ref t) H') ∧
  (¬ okSh ns → ∀ H' d, Same H H' → H d = none → H' d = some (.xd [(("word" : Str), .str "BadTaps")]) → E (.ref cT) (some d) H')
theorem ok_right_shares {f cT : Addr} {fd : FuncData} {k : Nat} {t4 t3 : Tok} (F : Fun K "right_shares" "right_shares" s_right_shares f fd) (n_len : mg "len" = none) (n_abs : mg "abs" = none) (g_MOST_SHARES : mg "MOST_SHARES" = some (.int 4 t4)) (g_GREATEST_SHARE : mg "GREATEST_SHARE" = some (.int 3 t3))
    (x_BadTaps : XcOk P w K mg base k "BadTaps" cT (spIni0 K cT "BadTaps")) (c_without_last_noughts : Cal P w K mg base (k + 1) "without_last_noughts" ["numbers"] (spWN K)) : FnOk P w K mg base (L2.CX P w) (k + 2) f fd ["numbers"] (spRS K cT) := by
  have sc := sc_right_shares
  refine F.okX sc (fun vs H Q E h => ?_) (fun cdv A outer s H vs Q E hr h => ?_)
  · obtain ⟨a, kk, ns, rfl, _⟩ := h
    rfl
  · obtain ⟨a, kk, ns, rfl, hS, hlen, q, qe⟩ := h
    refine ⟨_, (pss_cons (ps_set (i := 1) sc.nd rfl (.inl rfl) (pe_callC c_without_last_noughts hr (by rfl) (pa_cons (pv 0) pa_nil)))
 (pss_cons (ps_if (pt_cmpR op_gt (pe_callB (call_lenK K rfl) (by rfl) n_len PySem.boot_len (pa_cons (pv 1) pa_nil)) (pe_glob (v := .int 4) (by rfl) g_MOST_SHARES ⟨_, rfl⟩) (nomark _))
  (pss_one (ps_raise rfl (takes_of rfl rfl rfl rfl) (pmk_c0 x_BadTaps hr (by rfl))))
  pss_nil)
 (pss_cons (ps_for (passes_of rfl) rfl (pi_tupK K rfl (pv 1)) (pg_name (i := 2) sc.nd rfl (.inl rfl))
  (pss_one (ps_if (pt_cmpR op_gt (pe_callB call_abs (by rfl) n_abs (by decide +kernel) (pa_cons (pv 2) pa_nil)) (pe_glob (v := .int 3) (by rfl) g_GREATEST_SHARE ⟨_, rfl⟩) (nomark _))
  (pss_one (ps_raise rfl (takes_of rfl rfl rfl rfl) (pmk_c0 x_BadTaps hr (by rfl))))
  pss_nil)))
 (pss_one (ps_ret (pv 1)))))), ?_⟩
    refine ⟨_, rfl, a, kk, ns, rfl, hS, hlen, fun H1 t s1 ht => ?_⟩
    refine name_by ?_
    refine ⟨_, rfl, t, _, rfl, .inr ht, _, _, rfl, rfl, _, rfl, ite2 (fun e => ?_) (fun e => ?_)⟩
    · have e : ¬ okSh ns := fun h => by
        have := of_decide_eq_true e
        rw [List.length_map] at this
        have := h.1
        omega
      exact mk_inner0 (fun H3 d s3 nd ed => qe e H3 d (s1.trans s3) (s1.free nd) ed)
    · have e4 : (trimS ns).length ≤ 4 := by
        have : ¬ (4 : Int) < (((trimS ns).map V.int).length : Int) := fun y => e (decide_eq_true y)
        rw [List.length_map] at this
        omega
      refine ⟨_, rfl, t, rfl, ⟨_, ht⟩, for_tup (K := K) (a := t) (xs := (trimS ns).map V.int) (fun i σ H' => ∃ y2, σ = [some (.ref a), some (.ref t), y2] ∧ H' = H1 ∧ ∀ x ∈ (trimS ns).take i, small x) ⟨none, rfl, rfl, fun x hx => absurd hx List.not_mem_nil⟩ (fun i σ H' _ h => by obtain ⟨y2, _, rfl, _⟩ := h; exact ht) ?_ ?_⟩
      · rintro i x σ H' hx ⟨y2, rfl, rfl, hsm⟩
        obtain ⟨z, hz, rfl⟩ := getI hx
        refine ⟨_, rfl, z, rfl, _, _, rfl, rfl, _, rfl, ite2 (fun e2 => ?_) (fun e2 => ?_)⟩
        · have ns_ : ¬ okSh ns := fun h => by
            have h2 := of_decide_eq_true e2
            have h3 := h.2 z (List.mem_of_getElem? hz)
            unfold small at h3
            split at h2 <;> omega
          exact mk_inner0 (fun H3 d s3 nd ed => qe ns_ H3 d (s1.trans s3) (s1.free nd) ed)
        · have h2 : small z := by
            have h2 : ¬ (3 : Int) < (if z < 0 then -z else z) := fun y => e2 (decide_eq_true y)
            unfold small
            split at h2 <;> omega
          refine ⟨_, rfl, rfl, ?_⟩
          rw [take_more hz]
          intro y hy
          rcases List.mem_append.mp hy with h | h
          · exact hsm y h
          · rw [List.mem_singleton.mp h]
            exact h2
      · rintro σ H' ⟨y2, rfl, rfl, hsm⟩
        rw [List.length_map, List.take_length] at hsm
        exact ⟨_, rfl, q ⟨e4, hsm⟩ H' t s1 ht⟩
theorem sc_left_behind : FnScope ["shares", "tones", "share", "tone"] ["shares", "tones"] (defScope s_left_behind) := ⟨rfl, rfl, rfl, by decide +kernel, rfl, by decide +kernel, by decide +kernel⟩
def spLB (K : PySem.W.Frag) : Sp := fun vs H Q _ => ∃ (t l : Addr) (ws ns : List Int), vs = [.ref t, .ref l] ∧ SqT K H t (ws.map V.int) ∧ SqL K H l (ns.map V.int) ∧ (∀ x ∈ ws, small x) ∧ ws.length ≤ 1000 ∧ ∀ H', Same H H' → Q (.int (dotL ws ns)) H'
theorem zw_take {ws ns : List Int} {i : Nat} {x y : Int} (hx : ws[i]? = some x) (hy : ns[i]? = some y) : (List.zipWith (· * ·) ws ns).take (i + 1) = (List.zipWith (· * ·) ws ns).take i ++ [x * y] := by
  refine take_more ?_
  rw [List.getElem?_zipWith, hx, hy]
theorem ok_left_behind {f : Addr} {fd : FuncData} {k : Nat} (F : Fun K "left_behind" "left_behind" s_left_behind f fd) (n_sum : mg "sum" = none) (n_zip : mg "zip" = none) : FnOk P w K mg base CX0 (k + 1) f fd ["shares", "tones"] (spLB K) := by
  have sc := sc_left_behind
  refine F.ok sc (fun vs H Q E h => ?_) (fun cdv A outer s H vs Q E hr h => ?_)
  · obtain ⟨t, l, ws, ns, rfl, _⟩ := h
    rfl
  · obtain ⟨t, l, ws, ns, rfl, ht, hl, hsm, hwl, q⟩ := h
    refine ⟨_, (pss_one (ps_ret (pe_callB (cr_sumK K rfl rfl) (by rfl) n_sum (by decide +kernel) (pa_cons (pe_lc (own := [("share", 2), ("tone", 3)]) (g := (gTup K 2 (gCons (gName 2) (gCons (gName 3) gNil)))) (by rfl) sc.nd (pi_zip2 K rfl (by rfl) n_zip (pa_cons (pv 0) (pa_cons (pv 1) pa_nil))) (blkOk_by (own := [("share", 2), ("tone", 3)]) (N := ["shares", "tones", "share", "tone"]) (sc := defScope s_left_behind) (by decide +kernel)) (fun _ _ _ _ _ => (pg_tup rfl (pgs_cons (pg_name (i := 2) sc.nd rfl (Or.inl rfl)) (pgs_cons (pg_name (i := 3) sc.nd rfl (Or.inl rfl)) pgs_nil)))) (fun _ _ _ _ _ => pts_nil) (fun _ _ _ _ _ => (pe_op op_mul (pv 2) (pv 3)))) pa_nil)))), ?_⟩
    refine ⟨_, rfl, _, rfl, t, l, false, true, _, _, rfl, ht, hl, fun D nD => lc_it (walk_z2 (K := K) (k1 := false) (k2 := true) (a := t) (b := l) (xs := ws.map V.int) (ys := ns.map V.int) rfl) (fun i H' => Same H H' ∧ H' D = some (.lst (((List.zipWith (· * ·) ws ns).take i).map V.int))) ⟨same_upd nD, upd_same⟩ (fun i H' _ h => ⟨same_t h.1 ht, h.1.seq hl⟩) ?_ ?_⟩
    · rintro i v H1 H2 hi ⟨s1, eD⟩ ⟨T, x, y, rfl, nT, rfl, hx0, hy0⟩
      obtain ⟨x, hx, rfl⟩ := getI hx0
      obtain ⟨y, hy, rfl⟩ := getI hy0
      have hi2 : i < ws.length := (List.getElem?_eq_some_iff.mp hx).1
      have s2 := s1.trans (same_upd (o := .tup [.int x, .int y]) nT)
      refine ⟨T, _, rfl, SqT.of upd_same, rfl, _, _, rfl, _, _, rfl, rfl, rfl, tYes_by (iteT ?_)⟩
      have hxs := hsm x (List.mem_of_getElem? hx)
      unfold small at hxs
      refine ⟨_, rfl, _, rfl, _, _, rfl, rfl, .inl ⟨by omega, by omega⟩, ?_⟩
      refine ⟨_, same_upd nT _ _ eD, ?_, ?_, ?_⟩
      · rw [List.length_map, List.length_take]
        exact sz4l (by omega)
      · exact same_mut s2 nD
      · rw [upd_same, zw_take hx hy, List.map_append]
        rfl
    · rintro H1 ⟨s1, eD⟩
      rw [List.take_of_length_le (by rw [List.length_zipWith, List.length_map, List.length_map]; exact Nat.le_refl _)] at eD
      exact ⟨D, _, rfl, SqL.of eD, q H1 s1⟩
theorem sc_no_tones : FnScope [] [] (defScope s_no_tones) := ⟨rfl, rfl, rfl, by decide +kernel, rfl, by decide +kernel, by decide +kernel⟩
def spNT : Sp := fun vs H Q _ => vs = [] ∧ ∀ (H' : Hp) (l : Addr), Same H H' → H l = none → H' l = some (.lst (([0, 0, 0, 0] : List Int).map V.int)) → Q (.ref l) H'
theorem ok_no_tones {f : Addr} {fd : FuncData} {k : Nat} {t4 : Tok} (F : Fun K "no_tones" "no_tones" s_no_tones f fd) (g_MOST_SHARES : mg "MOST_SHARES" = some (.int 4 t4)) : FnOk P w K mg base CX0 (k + 1) f fd [] spNT := by
  have sc := sc_no_tones
  refine F.ok sc (fun vs H Q E h => ?_) (fun cdv A outer s H vs Q E hr h => ?_)
  · obtain ⟨rfl, _⟩ := h
    rfl
  · obtain ⟨rfl, q⟩ := h
    refine ⟨_, (pss_one (ps_ret (pe_op op_rep (pe_lst (pa_cons pe_int pa_nil)) (pe_glob (v := .int 4) (by rfl) g_MOST_SHARES ⟨_, rfl⟩)))), ?_⟩
    refine ⟨(by show 1 ≤ sizeLine; decide), fun p np => ⟨p, 4, _, rfl, rfl, upd_same, by decide, by decide, (by show 1 * 4 ≤ sizeLine; decide), fun l nl => ?_⟩⟩
    have s1 := same_upd (o := .lst [.int 0]) np
    exact q _ l (s1.trans (same_upd nl)) (s1.free nl) upd_same
theorem sc_with_latest : FnScope ["tone", "tones"] ["tone", "tones"] (defScope s_with_latest) := ⟨rfl, rfl, rfl, by decide +kernel, rfl, by decide +kernel, by decide +kernel⟩
def spWL (K : PySem.W.Frag) : Sp := fun vs H Q _ => ∃ (t : Int) (l : Addr) (ns : List Int), vs = [.int t, .ref l] ∧ SqL K H l (ns.map V.int) ∧ ∀ (H' : Hp) (l' : Addr), Same H H' → H l' = none → H' l' = some (.lst ((t :: ns.take 3).map V.int)) → Q (.ref l') H'
theorem ok_with_latest {f : Addr} {fd : FuncData} {k : Nat} {t4 : Tok} (F : Fun K "with_latest" "with_latest" s_with_latest f fd) (g_MOST_SHARES : mg "MOST_SHARES" = some (.int 4 t4)) : FnOk P w K mg base CX0 (k + 1) f fd ["tone", "tones"] (spWL K) := by
  have sc := sc_with_latest
  refine F.ok sc (fun vs H Q E h => ?_) (fun cdv A outer s H vs Q E hr h => ?_)
  · obtain ⟨t, l, ns, rfl, _⟩ := h
    rfl
  · obtain ⟨t, l, ns, rfl, hl, q⟩ := h
    refine ⟨_, (pss_one (ps_ret (pe_op op_cat (pe_lst (pa_cons (pv 0) pa_nil)) (pe_slice (sl_listK K rfl) (pv 1) po_none (po_some (pe_op op_sub (pe_glob (v := .int 4) (by rfl) g_MOST_SHARES ⟨_, rfl⟩) pe_int)))))), ?_⟩
    refine ⟨_, rfl, (by show 1 ≤ sizeLine; decide), fun p1 n1 => ?_⟩
    have s1 := same_upd (o := .lst [.int t]) n1
    refine ⟨_, rfl, _, _, rfl, rfl, _, rfl, l, _, rfl, s1.seq hl, fun p2 n2 => ?_⟩
    have ec : cutV (ns.map V.int) none (some ((4 : Int) - 1)) = (ns.take 3).map V.int := by
      rw [show (4 : Int) - 1 = ((3 : Nat) : Int) by decide, cut_to_n, List.map_take]
    rw [ec]
    have s2 := s1.trans (same_upd (o := .lst ((ns.take 3).map V.int)) n2)
    have e1 : upd (upd H p1 (.lst [.int t])) p2 (.lst ((ns.take 3).map V.int)) p1 = some (.lst [.int t]) := same_upd n2 _ _ upd_same
    refine ⟨p1, p2, _, _, rfl, rfl, e1, upd_same, ?_, fun p3 n3 => ?_⟩
    · rw [List.length_map, List.length_take]
      refine sz4 ?_
      show 1 + min 3 ns.length ≤ 100000
      omega
    exact q _ p3 (s2.trans (same_upd n3)) (s2.free n3) upd_same
/-! ### the coder: the mathematics -/
def mvS (s f : Int) : Int := 2 * (s % 2) + f
def clS (s f : Int) : Int := 2 * ((s / 2 + f) % 2) + s % 2
def St4 (s : Int) : Prop := 0 ≤ s ∧ s < 4
theorem st4_cases {s : Int} (h : St4 s) : s = 0 ∨ s = 1 ∨ s = 2 ∨ s = 3 := by
  obtain ⟨h1, h2⟩ := h
  omega
theorem cl_xor {s f : Int} (hs : St4 s) (hf : isB f) : Builtin.bitXor s (2 * f) = clS s f := by
  rcases st4_cases hs with rfl | rfl | rfl | rfl <;> rcases hf with rfl | rfl <;> decide
theorem mv_st {s f : Int} (hf : isB f) : St4 (mvS s f) := by
  unfold St4 mvS
  rcases hf with rfl | rfl <;> omega
theorem cl_st (s f : Int) : St4 (clS s f) := by
  unfold St4 clS
  omega
abbrev Bt := Int × Int
def stB (s : Int) (bs : List Bt) : Int := bs.foldl (fun s b => mvS s b.1) s
def codeB : Int → List Bt → List Int
  | _, [] => []
  | s, b :: r => (4 * b.2 + clS s b.1) :: codeB (mvS s b.1) r
theorem codeB_app : ∀ (s : Int) (as bs : List Bt), codeB s (as ++ bs) = codeB s as ++ codeB (stB s as) bs
  | _, [], _ => rfl
  | s, a :: as, bs => congrArg _ (codeB_app (mvS s a.1) as bs)
theorem stB_app (s : Int) (as bs : List Bt) : stB s (as ++ bs) = stB (stB s as) bs := by
  unfold stB
  rw [List.foldl_append]
theorem codeB_len : ∀ (s : Int) (bs : List Bt), (codeB s bs).length = bs.length
  | _, [] => rfl
  | s, b :: r => congrArg (· + 1) (codeB_len (mvS s b.1) r)
theorem codeB_more {s : Int} {bs : List Bt} {i : Nat} {b : Bt} (h : bs[i]? = some b) : codeB s (bs.take (i + 1)) = codeB s (bs.take i) ++ [4 * b.2 + clS (stB s (bs.take i)) b.1] := by
  rw [take_more h, codeB_app]
  rfl
theorem stB_more {s : Int} {bs : List Bt} {i : Nat} {b : Bt} (h : bs[i]? = some b) : stB s (bs.take (i + 1)) = mvS (stB s (bs.take i)) b.1 := by
  rw [take_more h, stB_app]
  rfl
/-- the i-th beat of a row at rate r -/
def bt (r : Nat) (row : List Int) (i : Nat) : Bt := (row.getD (i * r) 0, bn ((row.drop (i * r + 1)).take (r - 1)))
def bts (r N : Nat) (row : List Int) : List Bt := (List.range N).map (bt r row)
def tl2 : List Bt := [(0, 0), (0, 0)]
def rowB (r : Nat) (bs : List Int) : List Bt := bts r (bs.length / r) bs ++ tl2
def codeL (r : Nat) (bs : List Int) : List Int := codeB 0 (rowB r bs)
theorem st_tl2 (s : Int) : stB s tl2 = 0 := by
  show mvS (mvS s 0) 0 = 0
  unfold mvS
  omega
theorem bts_len (r N : Nat) (row : List Int) : (bts r N row).length = N := by
  unfold bts
  rw [List.length_map, List.length_range]
theorem bts_at {r N : Nat} {row : List Int} {i : Nat} (h : i < N) : (bts r N row)[i]? = some (bt r row i) := by
  unfold bts
  rw [List.getElem?_map, List.getElem?_range h]
  rfl
theorem bn_rep0 : ∀ n : Nat, bn (List.replicate n 0) = 0
  | 0 => rfl
  | n + 1 => by
    show (List.replicate n 0).foldl _ (2 * 0 + 0) = 0
    exact bn_rep0 n
theorem idx_le {i r n L : Nat} (h : i < n) (hL : L = r * n) : i * r + r ≤ L := by
  have : (i + 1) * r ≤ n * r := Nat.mul_le_mul_right r h
  rw [Nat.add_mul, Nat.one_mul] at this
  rw [hL, Nat.mul_comm r n]
  exact this
theorem bt_left {r n i : Nat} {bs zs : List Int} (hr : 0 < r) (hl : bs.length = r * n) (hi : i < n) : bt r (bs ++ zs) i = bt r bs i := by
  have h1 := idx_le hi hl
  unfold bt
  rw [List.getD_eq_getElem?_getD, List.getElem?_append_left (by omega), List.getD_eq_getElem?_getD, List.drop_append_of_le_length (by omega), List.take_append_of_le_length (by rw [List.length_drop]; omega)]
theorem bt_zero {r n j : Nat} {bs : List Int} (hl : bs.length = r * n) (m : Nat) : bt r (bs ++ List.replicate m 0) (n + j) = (0, 0) := by
  have e : (n + j) * r = bs.length + j * r := by rw [hl, Nat.add_mul, Nat.mul_comm n r]
  unfold bt
  rw [e, List.getD_eq_getElem?_getD, List.getElem?_append_right (by omega), List.drop_append, List.drop_of_length_le (by omega), List.nil_append, List.drop_replicate, List.take_replicate, bn_rep0]
  congr 1
  rw [Nat.add_sub_cancel_left]
  cases e2 : (List.replicate m (0 : Int))[j * r]? with
  | none => rfl
  | some z => exact List.eq_of_mem_replicate (List.mem_of_getElem? e2)
theorem bts_tail {r n : Nat} {bs : List Int} (hr : 0 < r) (hl : bs.length = r * n) (m : Nat) : bts r (n + 2) (bs ++ List.replicate m 0) = bts r n bs ++ tl2 := by
  unfold bts
  rw [List.range_succ, List.range_succ, List.map_append, List.map_append, List.append_assoc]
  congr 1
  · refine List.map_congr_left fun i hi => ?_
    exact bt_left hr hl (List.mem_range.mp hi)
  · show [bt r _ n] ++ [bt r _ (n + 1)] = tl2
    have h0 := bt_zero (j := 0) hl m
    have h1 := bt_zero (j := 1) hl m
    rw [Nat.add_zero] at h0
    rw [h0, h1]
    rfl
theorem rowB_of {r n : Nat} {bs : List Int} (hr : 0 < r) (hl : bs.length = r * n) : rowB r bs = bts r n bs ++ tl2 := by
  unfold rowB
  rw [hl, Nat.mul_div_cancel_left _ hr]
theorem bt_bit {r : Nat} {bs : List Int} (h : Bits bs) (i : Nat) : isB (bt r bs i).1 := by
  show isB (bs.getD (i * r) 0)
  rw [List.getD_eq_getElem?_getD]
  cases e : bs[i * r]? with
  | none => exact .inl rfl
  | some z => exact h z (List.mem_of_getElem? e)
def BitsB (bs : List Bt) : Prop := ∀ b ∈ bs, isB b.1
theorem bts_bits {r N : Nat} {bs : List Int} (h : Bits bs) : BitsB (bts r N bs) := fun b hb => by
  obtain ⟨i, _, rfl⟩ := List.mem_map.mp hb
  exact bt_bit h i
theorem rowB_bits {r : Nat} {bs : List Int} (h : Bits bs) : BitsB (rowB r bs) := fun b hb => by
  rcases List.mem_append.mp hb with hb | hb
  · exact bts_bits h b hb
  · rcases List.mem_cons.mp hb with rfl | hb
    · exact .inl rfl
    · rw [List.mem_singleton.mp hb]
      exact .inl rfl
theorem stB_st {s : Int} : ∀ {bs : List Bt}, St4 s → BitsB bs → St4 (stB s bs)
  | [], h, _ => h
  | b :: r, h, hb => stB_st (bs := r) (mv_st (hb b (.head _))) (fun x hx => hb x (.tail _ hx))
theorem st4_0 : St4 0 := ⟨by decide, by decide⟩
theorem cut_mid (xs : List V) (i j : Nat) (h : i ≤ j) : cutV xs (some (i : Int)) (some (j : Int)) = (xs.drop i).take (j - i) := by
  unfold cutV
  rw [HT.sIx_nat, HT.sIx_nat]
  by_cases h1 : i ≤ xs.length
  · rw [Nat.min_eq_left h1]
    by_cases h2 : j ≤ xs.length
    · rw [Nat.min_eq_left h2]
    · rw [Nat.min_eq_right (by omega), List.take_of_length_le (by rw [List.length_drop]; exact Nat.le_refl _), List.take_of_length_le (by rw [List.length_drop]; omega)]
  · rw [Nat.min_eq_right (show xs.length ≤ i by omega), Nat.min_eq_right (show xs.length ≤ j by omega), List.drop_of_length_le (Nat.le_refl _), List.drop_of_length_le (show xs.length ≤ i by omega), List.take_nil, List.take_nil]
theorem fits {i : Int} (h0 : 0 ≤ i) (h1 : i ≤ 20000) : Builtin.Range.rangeFitsLong i = true := by
  unfold Builtin.Range.rangeFitsLong
  rw [Bool.and_eq_true]
  exact ⟨decide_eq_true (by omega), decide_eq_true (by omega)⟩
theorem small_c {l c : Int} (hs : Builtin.Range.rangeSize 0 l c = (if 0 < l then (l - 0 - 1) / c + 1 else 0)) (h0 : 0 ≤ l) (h1 : l ≤ 10000) (c0 : 0 < c) (c1 : c ≤ 100) : Builtin.Range.small 0 l c = true := by
  have b0 : 0 ≤ Builtin.Range.rangeSize 0 l c ∧ Builtin.Range.rangeSize 0 l c ≤ 10001 := by
    rw [hs]
    split
    · have h2 : 0 ≤ (l - 0 - 1) / c := Int.ediv_nonneg (by omega) (by omega)
      have h3 : (l - 0 - 1) / c ≤ l - 0 - 1 := Int.ediv_le_self _ (by omega)
      omega
    · omega
  unfold Builtin.Range.small
  rw [fits (i := 0) (by decide) (by decide), fits h0 (by omega), fits (i := c) (by omega) (by omega), fits b0.1 (by omega), if_pos c0, fits (i := l + (c - 1)) (by omega) (by omega), Bool.or_true]
  rfl
theorem rgc_pos {r : Int} {n : Nat} (ok : okR r) (hn : (n : Int) * r ≤ 10000) : RgC 0 ((n : Int) * r) r n := by
  obtain ⟨r1, r4⟩ := id ok
  have hs : Builtin.Range.rangeSize 0 ((n : Int) * r) r = (if 0 < (n : Int) * r then ((n : Int) * r - 0 - 1) / r + 1 else 0) := by
    rcases okR_cases ok with rfl | rfl | rfl | rfl <;> rfl
  refine ⟨by omega, by omega, small_c hs (Int.mul_nonneg (by omega) (by omega)) hn (by omega) (by omega), ?_⟩
  rw [hs]
  rcases okR_cases ok with rfl | rfl | rfl | rfl <;> split <;> omega
/-! ### tuples and beats in the heap -/
def TupsAt (H : Hp) : List Addr → List (List Int) → Prop
  | [], [] => True
  | p :: ps, t :: ts => H p = some (.tup (t.map V.int)) ∧ TupsAt H ps ts
  | _, _ => False
theorem TupsAt.loc {H H' : Hp} (k : ∀ a xs, H a = some (.tup xs) → H' a = some (.tup xs)) : ∀ {ps : List Addr} {ts : List (List Int)}, TupsAt H ps ts → TupsAt H' ps ts
  | [], [], _ => trivial
  | p :: ps, t :: ts, h => ⟨k p _ h.1, TupsAt.loc k h.2⟩
theorem TupsAt.dp {H : Hp} : ∀ {ps : List Addr} {ts : List (List Int)}, TupsAt H ps ts → DpAll K H (ps.map V.ref) (ts.map tupD)
  | [], [], _ => .nil
  | p :: ps, t :: ts, h => .cons (dp_tup (SqT.of h.1)) (TupsAt.dp h.2)
theorem TupsAt.len {H : Hp} : ∀ {ps : List Addr} {ts : List (List Int)}, TupsAt H ps ts → ps.length = ts.length
  | [], [], _ => rfl
  | p :: ps, t :: ts, h => congrArg (· + 1) (TupsAt.len h.2)
theorem TupsAt.snoc {H : Hp} {p : Addr} {t : List Int} (e : H p = some (.tup (t.map V.int))) : ∀ {ps : List Addr} {ts : List (List Int)}, TupsAt H ps ts → TupsAt H (ps ++ [p]) (ts ++ [t])
  | [], [], _ => ⟨e, trivial⟩
  | q :: ps, s :: ts, h => ⟨h.1, TupsAt.snoc e h.2⟩
theorem TupsAt.at {H : Hp} : ∀ {ps : List Addr} {ts : List (List Int)} {i : Nat} {t : List Int}, TupsAt H ps ts → ts[i]? = some t → ∃ p, ps[i]? = some p ∧ H p = some (.tup (t.map V.int))
  | [], [], _, _, _, e => by simp at e
  | q :: ps, s :: ts, 0, t, h, e => by cases e; exact ⟨q, rfl, h.1⟩
  | q :: ps, s :: ts, i + 1, t, h, e => TupsAt.at (i := i) h.2 e
def BeatAt (H : Hp) (q : Addr) (ts : List (List Int)) : Prop := ∃ ps : List Addr, H q = some (.lst (ps.map V.ref)) ∧ TupsAt H ps ts
theorem BeatAt.same {H H' : Hp} {q : Addr} {ts : List (List Int)} (s : Same H H') (h : BeatAt H q ts) : BeatAt H' q ts := by
  obtain ⟨ps, h1, h2⟩ := h
  exact ⟨ps, s _ _ h1, TupsAt.loc (fun a xs e => s a _ e) h2⟩
/-- another list is written -/
theorem BeatAt.mut {H : Hp} {q D : Addr} {ts : List (List Int)} {xs ys : List V} (hD : H D = some (.lst xs)) (n : q ≠ D) (h : BeatAt H q ts) : BeatAt (upd H D (.lst ys)) q ts := by
  obtain ⟨ps, h1, h2⟩ := h
  refine ⟨ps, by rw [upd_ne n]; exact h1, TupsAt.loc (fun a zs e => ?_) h2⟩
  rw [upd_ne (fun z => by rw [z, hD] at e; cases e)]
  exact e
theorem tups_mut {H : Hp} {D : Addr} {ps : List Addr} {ts : List (List Int)} {xs ys : List V} (hD : H D = some (.lst xs)) (h : TupsAt H ps ts) : TupsAt (upd H D (.lst ys)) ps ts := TupsAt.loc (fun a zs e => by
  rw [upd_ne (fun z => by rw [z, hD] at e; cases e)]
  exact e) h
def BeatsAt (H : Hp) : List Addr → List (List (List Int)) → Prop
  | [], [] => True
  | q :: qs, b :: bs => BeatAt H q b ∧ BeatsAt H qs bs
  | _, _ => False
theorem BeatsAt.same {H H' : Hp} (s : Same H H') : ∀ {qs : List Addr} {bs : List (List (List Int))}, BeatsAt H qs bs → BeatsAt H' qs bs
  | [], [], _ => trivial
  | q :: qs, b :: bs, h => ⟨h.1.same s, BeatsAt.same s h.2⟩
theorem BeatsAt.mut {H : Hp} {D : Addr} {xs ys : List V} (hD : H D = some (.lst xs)) : ∀ {qs : List Addr} {bs : List (List (List Int))}, D ∉ qs → BeatsAt H qs bs → BeatsAt (upd H D (.lst ys)) qs bs
  | [], [], _, _ => trivial
  | q :: qs, b :: bs, n, h => ⟨h.1.mut hD (fun z => n (z ▸ .head _)), BeatsAt.mut hD (fun z => n (.tail _ z)) h.2⟩
theorem BeatsAt.snoc {H : Hp} {q : Addr} {b : List (List Int)} (e : BeatAt H q b) : ∀ {qs : List Addr} {bs : List (List (List Int))}, BeatsAt H qs bs → BeatsAt H (qs ++ [q]) (bs ++ [b])
  | [], [], _ => ⟨e, trivial⟩
  | _ :: qs, _ :: bs, h => ⟨h.1, BeatsAt.snoc e h.2⟩
theorem BeatsAt.len {H : Hp} : ∀ {qs : List Addr} {bs : List (List (List Int))}, BeatsAt H qs bs → qs.length = bs.length
  | [], [], _ => rfl
  | _ :: qs, _ :: bs, h => congrArg (· + 1) (BeatsAt.len h.2)
theorem BeatsAt.rev {H : Hp} : ∀ {qs : List Addr} {bs : List (List (List Int))}, BeatsAt H qs bs → BeatsAt H qs.reverse bs.reverse
  | [], [], _ => trivial
  | q :: qs, b :: bs, h => by
    rw [List.reverse_cons, List.reverse_cons]
    exact BeatsAt.snoc h.1 (BeatsAt.rev h.2)
theorem BeatsAt.at {H : Hp} : ∀ {qs : List Addr} {bs : List (List (List Int))} {i : Nat} {q : Addr}, BeatsAt H qs bs → qs[i]? = some q → ∃ b, bs[i]? = some b ∧ BeatAt H q b
  | [], [], _, _, _, e => by simp at e
  | _ :: qs, b :: bs, 0, q, h, e => by cases e; exact ⟨b, rfl, h.1⟩
  | _ :: qs, b :: bs, i + 1, q, h, e => BeatsAt.at (i := i) h.2 e
/-! ### the nearest point of a class -/
def ncl (x low r : Int) : List Int :=
  minT [((x - pointI low r) % 256 % (4 * stepI r)) ^ 2, (x - pointI low r) % 256 / (4 * stepI r)] [[(4 * stepI r - (x - pointI low r) % 256 % (4 * stepI r)) ^ 2, ((x - pointI low r) % 256 / (4 * stepI r) + 1) % (256 / (4 * stepI r))]]
def way (x : Int) (cs : List Int) (r s f : Int) : List Int := [(ncl x (clS s f) r).getD 0 0 + cs.getD (mvS s f).toNat 0, f, (ncl x (clS s f) r).getD 1 0]
def bestT (x : Int) (cs : List Int) (r s : Int) : List Int := minT (way x cs r s 0) [way x cs r s 1]
def bestR (x : Int) (cs : List Int) (r : Int) : List (List Int) := (List.range 4).map fun s => bestT x cs r (s : Nat)
def sqA (h n r : Int) : Int := apartI h (pointI n r) ^ 2
def tailC (r : Int) : List Int → List Int
  | [] => [0, 0, 0, 0]
  | h :: hs => (List.range 4).map fun s => sqA h (clS (s : Nat) 0) r + (tailC r hs).getD (mvS (s : Nat) 0).toNat 0
def costsOf (b : List (List Int)) : List Int := b.map fun t => t.getD 0 0
def dpC (r : Int) (tc : List Int) : List Int → List Int
  | [] => tc
  | h :: hs => costsOf (bestR h (dpC r tc hs) r)
def dpB (r : Int) (tc : List Int) : List Int → List (List (List Int))
  | [] => []
  | h :: hs => bestR h (dpC r tc hs) r :: dpB r tc hs
def along (r : Nat) : Int → List (List (List Int)) → List Int
  | _, [] => []
  | s, b :: bs => (b.getD s.toNat []).getD 1 0 :: (wr (r - 1) ((b.getD s.toNat []).getD 2 0) ++ along r (mvS s ((b.getD s.toNat []).getD 1 0)) bs)
def hpRow (r : Nat) (hs : List Int) : List Int := along r 0 (dpB (r : Int) (tailC (r : Int) (hs.drop (hs.length - 2))) (hs.take (hs.length - 2)))
def hpCost (r : Nat) (hs : List Int) : Int := (dpC (r : Int) (tailC (r : Int) (hs.drop (hs.length - 2))) (hs.take (hs.length - 2))).getD 0 0
theorem min2 (x y : List Int) : minT x [y] = x ∨ minT x [y] = y := by
  show (if lexB y x = true then y else x) = x ∨ (if lexB y x = true then y else x) = y
  split
  · exact .inr rfl
  · exact .inl rfl
theorem ncl_two (x low r : Int) : ∃ c m, ncl x low r = [c, m] := by
  unfold ncl
  rcases min2 [((x - pointI low r) % 256 % (4 * stepI r)) ^ 2, (x - pointI low r) % 256 / (4 * stepI r)] [(4 * stepI r - (x - pointI low r) % 256 % (4 * stepI r)) ^ 2, ((x - pointI low r) % 256 / (4 * stepI r) + 1) % (256 / (4 * stepI r))] with h | h
  · exact ⟨_, _, h⟩
  · exact ⟨_, _, h⟩
theorem ncl_m {x low r : Int} (ok : okR r) : 0 ≤ (ncl x low r).getD 1 0 ∧ (ncl x low r).getD 1 0 < 2 ^ (r - 1).toNat := by
  unfold ncl
  rcases min2 [((x - pointI low r) % 256 % (4 * stepI r)) ^ 2, (x - pointI low r) % 256 / (4 * stepI r)] [(4 * stepI r - (x - pointI low r) % 256 % (4 * stepI r)) ^ 2, ((x - pointI low r) % 256 / (4 * stepI r) + 1) % (256 / (4 * stepI r))] with h | h
  · rw [h]
    show 0 ≤ (x - pointI low r) % 256 / (4 * stepI r) ∧ (x - pointI low r) % 256 / (4 * stepI r) < _
    generalize x - pointI low r = y
    rcases pts_step ok with ⟨rfl, _, e⟩ | ⟨rfl, _, e⟩ | ⟨rfl, _, e⟩ | ⟨rfl, _, e⟩ <;> rw [e] <;> simp <;> omega
  · rw [h]
    show 0 ≤ ((x - pointI low r) % 256 / (4 * stepI r) + 1) % (256 / (4 * stepI r)) ∧ ((x - pointI low r) % 256 / (4 * stepI r) + 1) % (256 / (4 * stepI r)) < _
    generalize x - pointI low r = y
    rcases pts_step ok with ⟨rfl, _, e⟩ | ⟨rfl, _, e⟩ | ⟨rfl, _, e⟩ | ⟨rfl, _, e⟩ <;> rw [e] <;> simp <;> omega
theorem best_three (x : Int) (cs : List Int) (r s : Int) : bestT x cs r s = way x cs r s 0 ∨ bestT x cs r s = way x cs r s 1 := min2 _ _
theorem bestR_at {x : Int} {cs : List Int} {r : Int} {s : Nat} (h : s < 4) : (bestR x cs r)[s]? = some (bestT x cs r (s : Nat)) := by
  unfold bestR
  rw [List.getElem?_map, List.getElem?_range h]
  rfl
theorem bestR_len (x : Int) (cs : List Int) (r : Int) : (bestR x cs r).length = 4 := by
  unfold bestR
  rw [List.length_map, List.length_range]
theorem dpC_len (r : Int) (tc : List Int) (h : tc.length = 4) : ∀ hs, (dpC r tc hs).length = 4
  | [] => h
  | x :: hs => by
    show (costsOf _).length = 4
    unfold costsOf
    rw [List.length_map, bestR_len]
theorem tailC_len (r : Int) : ∀ hs, (tailC r hs).length = 4
  | [] => rfl
  | x :: hs => by
    show ((List.range 4).map _).length = 4
    rw [List.length_map, List.length_range]
theorem st4_nat {s : Int} (h : St4 s) : ∃ n : Nat, s = (n : Int) ∧ n < 4 := ⟨s.toNat, by have := h.1; omega, by have := h.2; have := h.1; omega⟩
theorem dpB_len (r : Int) (tc : List Int) : ∀ hs, (dpB r tc hs).length = hs.length
  | [] => rfl
  | h :: hs => congrArg (· + 1) (dpB_len r tc hs)
/-- bits to a number and back -/
theorem bn_acc_lt : ∀ (bs : List Int) (c : Int), Bits bs → 0 ≤ c → 0 ≤ bs.foldl (fun n b => 2 * n + b) c ∧ bs.foldl (fun n b => 2 * n + b) c < (c + 1) * 2 ^ bs.length
  | [], c, _, hc => by
    show 0 ≤ c ∧ c < (c + 1) * 1
    omega
  | b :: r, c, h, hc => by
    have hb := (bits_cons h).1
    have ih := bn_acc_lt r (2 * c + b) (bits_cons h).2 (by rcases hb with rfl | rfl <;> omega)
    refine ⟨ih.1, Int.lt_of_lt_of_le ih.2 ?_⟩
    rw [List.length_cons, Int.pow_succ, Int.mul_comm (2 ^ r.length) 2, ← Int.mul_assoc]
    exact Int.mul_le_mul_of_nonneg_right (by rcases hb with rfl | rfl <;> omega) (Int.pow_nonneg (by decide))
theorem bn_lt {bs : List Int} (h : Bits bs) : 0 ≤ bn bs ∧ bn bs < 2 ^ bs.length := by
  have := bn_acc_lt bs 0 h (Int.le_refl _)
  unfold bn
  omega
theorem bn_cons (b : Int) (r : List Int) : ∀ c : Int, r.foldl (fun n b => 2 * n + b) c = c * 2 ^ r.length + bn r := by
  induction r with
  | nil => intro c; show c = c * 1 + 0; omega
  | cons x r ih =>
    intro c
    show r.foldl _ (2 * c + x) = c * 2 ^ (r.length + 1) + r.foldl _ (2 * 0 + x)
    rw [ih, ih (2 * 0 + x), Int.pow_succ, Int.add_mul, Int.add_mul, Int.mul_comm 2 c, Int.mul_assoc, Int.mul_comm 2 (2 ^ r.length)]
    omega
theorem wr_bn : ∀ (bs : List Int), Bits bs → ∀ c : Int, wr bs.length (c * 2 ^ bs.length + bn bs) = bs
  | [], _, _ => rfl
  | b :: r, h, c => by
    have hb := (bits_cons h).1
    have hl := bn_lt (bits_cons h).2
    have e : bn (b :: r) = b * 2 ^ r.length + bn r := by
      show r.foldl _ (2 * 0 + b) = _
      rw [bn_cons b r]
      congr 1
      congr 1
      omega
    have e2 : c * 2 ^ (b :: r).length + bn (b :: r) = (2 * c + b) * 2 ^ r.length + bn r := by
      rw [e, List.length_cons, Int.pow_succ, Int.add_mul, Int.mul_comm 2 c, Int.mul_assoc, Int.mul_comm 2 (2 ^ r.length)]
      omega
    rw [e2]
    show ((2 * c + b) * 2 ^ r.length + bn r) / 2 ^ r.length % 2 :: wr r.length _ = _
    rw [wr_bn r (bits_cons h).2]
    congr 1
    have hp : (0 : Int) < 2 ^ r.length := Int.pow_pos (by decide)
    rw [Int.add_comm, Int.add_mul_ediv_right _ _ (by omega), Int.ediv_eq_zero_of_lt hl.1 hl.2]
    rcases hb with rfl | rfl <;> omega
/-! ### squares -/
theorem sq_nn (a : Int) : 0 ≤ a ^ 2 := by
  rw [Int.pow_succ, Int.pow_succ, Int.pow_zero, Int.one_mul]
  rcases Int.le_total 0 a with h | h
  · exact Int.mul_nonneg h h
  · exact Int.mul_nonneg_of_nonpos_of_nonpos h h
theorem sq_mul (a : Int) : a ^ 2 = a * a := by rw [Int.pow_succ, Int.pow_succ, Int.pow_zero, Int.one_mul]
theorem sq_le {a b : Int} (h0 : 0 ≤ a) (h : a ≤ b) : a ^ 2 ≤ b ^ 2 := by
  rw [sq_mul, sq_mul]
  exact Int.mul_le_mul h h h0 (by omega)
theorem sq_lt {a b : Int} (h0 : 0 ≤ a) (h : a < b) : a ^ 2 < b ^ 2 := by
  rw [sq_mul, sq_mul]
  exact Int.lt_of_le_of_lt (Int.mul_le_mul_of_nonneg_left (by omega) h0) (Int.mul_lt_mul_of_pos_right h (by omega))
theorem sq_inj {a b : Int} (ha : 0 ≤ a) (hb : 0 ≤ b) (h : a ^ 2 = b ^ 2) : a = b := by
  rcases Int.lt_trichotomy a b with z | z | z
  · have := sq_lt ha z
    omega
  · exact z
  · have := sq_lt hb z
    omega
theorem sq_lt_inv {a b : Int} (hb : 0 ≤ b) (h : a ^ 2 < b ^ 2) : a < b := by
  rcases Int.lt_or_le a b with z | z
  · exact z
  · have := sq_le hb z
    omega
/-! ### the nearest point of a class is the nearest one -/
/-- the parts of the beat: how far past the last point of the class -/
theorem ncl_lin {x low r : Int} (ok : okR r) : ∃ (m e : Int), 0 ≤ m ∧ m < 2 ^ (r - 1).toNat ∧ ncl x low r = [e ^ 2, m] ∧ e = apartI x (pointI (4 * m + low) r) ∧
    ∀ m' : Int, 0 ≤ m' → m' < 2 ^ (r - 1).toNat → e < apartI x (pointI (4 * m' + low) r) ∨ (e = apartI x (pointI (4 * m' + low) r) ∧ m ≤ m') := by
  have hp : ∀ m' : Int, apartI x (pointI (4 * m' + low) r) = apartI (x - pointI low r) (4 * stepI r * m') := by
    intro m'
    unfold apartI
    have e : x - pointI (4 * m' + low) r = x - pointI low r - 4 * stepI r * m' := by
      unfold pointI
      rw [Int.add_mul, Int.mul_assoc 4 m' (stepI r), Int.mul_assoc 4 (stepI r) m', Int.mul_comm m' (stepI r)]
      omega
    rw [e]
  have key : ∃ (m e : Int), 0 ≤ m ∧ m < 2 ^ (r - 1).toNat ∧ ncl x low r = [e ^ 2, m] ∧ e = apartI (x - pointI low r) (4 * stepI r * m) ∧
    ∀ m' : Int, 0 ≤ m' → m' < 2 ^ (r - 1).toNat → e < apartI (x - pointI low r) (4 * stepI r * m') ∨ (e = apartI (x - pointI low r) (4 * stepI r * m') ∧ m ≤ m') := by
    unfold ncl
    generalize x - pointI low r = y
    have hmin : ∀ a b p q : Int, 0 ≤ a → 0 ≤ b → minT [a ^ 2, p] [[b ^ 2, q]] = if b < a ∨ (b = a ∧ q < p) then [b ^ 2, q] else [a ^ 2, p] := by
      intro a b p q ha hb
      show (if lexB [b ^ 2, q] [a ^ 2, p] = true then [b ^ 2, q] else [a ^ 2, p]) = _
      have hl : lexB [b ^ 2, q] [a ^ 2, p] = decide (b < a ∨ (b = a ∧ q < p)) := by
        show (if b ^ 2 = a ^ 2 then (if q = p then false else decide (q < p)) else decide (b ^ 2 < a ^ 2)) = _
        by_cases e : b = a
        · subst e
          rw [if_pos rfl]
          by_cases e2 : q = p
          · subst e2
            rw [if_pos rfl]
            exact (decide_eq_false (by omega)).symm
          · rw [if_neg e2]
            exact decide_eq_decide.mpr ⟨fun h => .inr ⟨rfl, h⟩, fun h => by omega⟩
        · rw [if_neg (fun h => e (sq_inj hb ha h))]
          exact decide_eq_decide.mpr ⟨fun h => .inl (sq_lt_inv ha h), fun h => sq_lt hb (by omega)⟩
      rw [hl]
      by_cases h : b < a ∨ (b = a ∧ q < p)
      · rw [if_pos h, if_pos (decide_eq_true h)]
      · rw [if_neg h, if_neg (fun z => h (of_decide_eq_true z))]
    rcases pts_step ok with ⟨rfl, _, e⟩ | ⟨rfl, _, e⟩ | ⟨rfl, _, e⟩ | ⟨rfl, _, e⟩ <;> rw [e] <;> rw [hmin _ _ _ _ (by omega) (by omega)] <;> split
    all_goals first
      | refine ⟨_, _, ?_, ?_, rfl, ?_, fun m' h0 h1 => ?_⟩
    all_goals simp only [apartI, fold] at *
    all_goals simp at *
    all_goals (try split)
    all_goals (try split)
    all_goals omega
  obtain ⟨m, e, h1, h2, h3, h4, h5⟩ := key
  refine ⟨m, e, h1, h2, h3, by rw [hp]; exact h4, fun m' a b => ?_⟩
  rw [hp]
  exact h5 m' a b
/-! ### rows of beats, and the rows of their bits -/
def GoodBs (r : Nat) (bs : List Bt) : Prop := ∀ b ∈ bs, isB b.1 ∧ 0 ≤ b.2 ∧ b.2 < 2 ^ (r - 1)
def flatB (r : Nat) : List Bt → List Int
  | [] => []
  | b :: bs => b.1 :: (wr (r - 1) b.2 ++ flatB r bs)
theorem flatB_len {r : Nat} (hr : 0 < r) : ∀ bs : List Bt, (flatB r bs).length = r * bs.length
  | [] => by rw [List.length_nil, Nat.mul_zero]; rfl
  | b :: bs => by
    show (_ :: (wr (r - 1) _ ++ flatB r bs)).length = _
    rw [List.length_cons, List.length_append, wr_len, flatB_len hr bs, List.length_cons, Nat.mul_add]
    omega
theorem flatB_bits {r : Nat} : ∀ {bs : List Bt}, GoodBs r bs → Bits (flatB r bs)
  | [], _ => fun z h => nomatch h
  | b :: bs, h => fun z hz => by
    rcases List.mem_cons.mp hz with rfl | hz
    · exact (h b (.head _)).1
    rcases List.mem_append.mp hz with hz | hz
    · exact wr_bits _ _ z hz
    · exact flatB_bits (bs := bs) (fun c hc => h c (.tail _ hc)) z hz
theorem bts_succ (r n : Nat) (row : List Int) : bts r (n + 1) row = bt r row 0 :: bts r n (row.drop r) := by
  unfold bts
  rw [List.range_succ_eq_map, List.map_cons, List.map_map]
  congr 1
  refine List.map_congr_left fun i _ => ?_
  show bt r row (i + 1) = bt r (row.drop r) i
  unfold bt
  rw [List.getD_eq_getElem?_getD, List.getD_eq_getElem?_getD, List.getElem?_drop, List.drop_drop, Nat.add_mul, Nat.one_mul, Nat.add_comm (i * r) r]
  congr 4
theorem bts_flat {r : Nat} (hr : 0 < r) : ∀ {bs : List Bt}, GoodBs r bs → bts r bs.length (flatB r bs) = bs
  | [], _ => rfl
  | b :: bs, h => by
    have hd : (flatB r (b :: bs)).drop r = flatB r bs := by
      show (b.1 :: (wr (r - 1) b.2 ++ flatB r bs)).drop r = _
      obtain ⟨k, rfl⟩ : ∃ k, r = k + 1 := ⟨r - 1, by omega⟩
      rw [List.drop_succ_cons]
      show (wr k b.2 ++ _).drop k = _
      rw [List.drop_left' (wr_len k b.2)]
    have hb : bt r (flatB r (b :: bs)) 0 = b := by
      unfold bt
      rw [Nat.zero_mul]
      show (b.1, bn ((wr (r - 1) b.2 ++ flatB r bs).take (r - 1))) = b
      rw [List.take_left' (wr_len _ _), bn_wr (h b (.head _)).2.1 (h b (.head _)).2.2]
    rw [List.length_cons, bts_succ, hd, hb, bts_flat hr (fun c hc => h c (.tail _ hc))]
theorem flat_bts {r : Nat} (hr : 0 < r) : ∀ (n : Nat) {row : List Int}, Bits row → row.length = r * n → flatB r (bts r n row) = row
  | 0, row, _, hl => by
    rw [Nat.mul_zero] at hl
    rw [List.length_eq_zero_iff.mp hl]
    rfl
  | n + 1, row, hB, hl => by
    rw [bts_succ]
    show row.getD (0 * r) 0 :: (wr (r - 1) (bn ((row.drop (0 * r + 1)).take (r - 1))) ++ flatB r (bts r n (row.drop r))) = row
    rw [flat_bts hr n (fun z hz => hB z (List.mem_of_mem_drop hz)) (by rw [List.length_drop, hl, Nat.mul_add]; omega), Nat.zero_mul, Nat.zero_add]
    cases row with
    | nil => rw [Nat.mul_add] at hl; simp at hl; omega
    | cons a rest =>
      obtain ⟨k, rfl⟩ : ∃ k, r = k + 1 := ⟨r - 1, by omega⟩
      show a :: (wr k (bn ((rest.drop 0).take k)) ++ rest.drop k) = _
      rw [List.drop_zero]
      congr 1
      have hk : (rest.take k).length = k := by
        rw [List.length_take]
        have : k + 1 ≤ (a :: rest).length := by rw [hl, Nat.mul_add]; omega
        rw [List.length_cons] at this
        omega
      have := wr_bn (rest.take k) (fun z hz => hB z (.tail _ (List.mem_of_mem_take hz))) 0
      rw [hk, Int.zero_mul, Int.zero_add] at this
      rw [this, List.take_append_drop]
theorem bts_good {r n : Nat} {row : List Int} (hr : 0 < r) (hB : Bits row) : GoodBs r (bts r n row) := fun b hb => by
  obtain ⟨i, _, rfl⟩ := List.mem_map.mp hb
  refine ⟨bt_bit hB i, ?_⟩
  have h := bn_lt (bs := (row.drop (i * r + 1)).take (r - 1)) (fun z hz => hB z (List.mem_of_mem_drop (List.mem_of_mem_take hz)))
  refine ⟨h.1, Int.lt_of_lt_of_le h.2 ?_⟩
  have hl : ((row.drop (i * r + 1)).take (r - 1)).length ≤ r - 1 := by rw [List.length_take]; omega
  have := Nat.pow_le_pow_right (n := 2) (by decide) hl
  have e : ∀ k : Nat, ((2 ^ k : Nat) : Int) = (2 : Int) ^ k := fun k => Int.natCast_pow 2 k
  rw [← e, ← e]
  exact_mod_cast this
/-! ### the order of rows -/
theorem lex_irr : ∀ xs, lexB xs xs = false
  | [] => rfl
  | x :: xs => by
    show (if x = x then lexB xs xs else _) = false
    rw [if_pos rfl]
    exact lex_irr xs
theorem lex_asym : ∀ xs ys, lexB xs ys = true → lexB ys xs = false
  | [], [], _ => rfl
  | [], _ :: _, _ => rfl
  | _ :: _, [], h => nomatch h
  | x :: xs, y :: ys, h => by
    have h : (if x = y then lexB xs ys else decide (x < y)) = true := h
    show (if y = x then lexB ys xs else decide (y < x)) = false
    by_cases e : x = y
    · rw [if_pos e] at h
      rw [if_pos e.symm]
      exact lex_asym xs ys h
    · rw [if_neg e] at h
      have := of_decide_eq_true h
      rw [if_neg (fun z => e z.symm)]
      exact decide_eq_false (by omega)
theorem lex_pre : ∀ (as xs ys : List Int), lexB (as ++ xs) (as ++ ys) = lexB xs ys
  | [], _, _ => rfl
  | a :: as, xs, ys => by
    show (if a = a then lexB (as ++ xs) (as ++ ys) else _) = _
    rw [if_pos rfl]
    exact lex_pre as xs ys
theorem lex_app : ∀ {as bs : List Int} (xs ys : List Int), as.length = bs.length → lexB as bs = true → lexB (as ++ xs) (bs ++ ys) = true
  | [], [], _, _, _, h => nomatch h
  | [], _ :: _, _, _, h, _ => nomatch h
  | _ :: _, [], _, _, h, _ => nomatch h
  | a :: as, b :: bs, xs, ys, hl, h => by
    have h : (if a = b then lexB as bs else decide (a < b)) = true := h
    show (if a = b then lexB (as ++ xs) (bs ++ ys) else decide (a < b)) = true
    by_cases e : a = b
    · rw [if_pos e] at h ⊢
      exact lex_app xs ys (Nat.succ.inj hl) h
    · rw [if_neg e] at h ⊢
      exact h
theorem wr_lex {r : Nat} {a b : Int} (ok : okR (r : Int)) (a0 : 0 ≤ a) (b1 : b < 2 ^ (r - 1)) (h : a < b) : lexB (wr (r - 1) a) (wr (r - 1) b) = true := by
  obtain ⟨r1, r4⟩ := id ok
  have hd : ∀ n : Nat, n < 4 → ∀ x : Nat, x < 8 → ∀ y : Nat, y < 8 → y < 2 ^ n → x < y → lexB (wr n (x : Int)) (wr n (y : Int)) = true := by decide +kernel
  have hy : b.toNat < 2 ^ (r - 1) := by
    have e : ((2 ^ (r - 1) : Nat) : Int) = (2 : Int) ^ (r - 1) := Int.natCast_pow 2 (r - 1)
    rw [← e] at b1
    omega
  have h8 : 2 ^ (r - 1) ≤ 8 := by
    have : r - 1 ≤ 3 := by omega
    exact Nat.pow_le_pow_right (n := 2) (by decide) this
  have := hd (r - 1) (by omega) a.toNat (by omega) b.toNat (by omega) hy (by omega)
  rwa [Int.toNat_of_nonneg a0, Int.toNat_of_nonneg (by omega)] at this
/-! ### the best way is the best one -/
/-- what a row of beats costs, from a state on -/
def costT (r : Int) (tc : List Int) : Int → List Int → List Bt → Int
  | s, h :: hs, b :: bs => sqA h (4 * b.2 + clS s b.1) r + costT r tc (mvS s b.1) hs bs
  | s, _, _ => tc.getD s.toNat 0
def alB : Int → List (List (List Int)) → List Bt
  | _, [] => []
  | s, b :: bs => ((b.getD s.toNat []).getD 1 0, (b.getD s.toNat []).getD 2 0) :: alB (mvS s ((b.getD s.toNat []).getD 1 0)) bs
theorem along_al (r : Nat) : ∀ (bs : List (List (List Int))) (s : Int), along r s bs = flatB r (alB s bs)
  | [], _ => rfl
  | b :: bs, s => by
    show _ :: (wr (r - 1) _ ++ along r _ bs) = _ :: (wr (r - 1) _ ++ flatB r _)
    rw [along_al r bs]
theorem alB_len : ∀ (bs : List (List (List Int))) (s : Int), (alB s bs).length = bs.length
  | [], _ => rfl
  | b :: bs, s => congrArg (· + 1) (alB_len bs _)
theorem best_st {x : Int} {cs : List Int} {r s : Int} (h : St4 s) : (bestR x cs r).getD s.toNat [] = bestT x cs r s := by
  obtain ⟨n, rfl, hn⟩ := st4_nat h
  rw [Int.toNat_natCast, List.getD_eq_getElem?_getD, bestR_at hn]
  rfl
theorem dpC_st {r : Int} {tc : List Int} {h : Int} {hs : List Int} {s : Int} (hst : St4 s) : (dpC r tc (h :: hs)).getD s.toNat 0 = (bestT h (dpC r tc hs) r s).getD 0 0 := by
  obtain ⟨n, rfl, hn⟩ := st4_nat hst
  show (costsOf (bestR h (dpC r tc hs) r)).getD _ 0 = _
  unfold costsOf
  rw [Int.toNat_natCast, List.getD_eq_getElem?_getD, List.getElem?_map, bestR_at hn]
  rfl
/-- the better of both first bits: cost, then bit -/
theorem best_of {x : Int} {cs : List Int} {r s : Int} : ∃ f : Int, isB f ∧ bestT x cs r s = way x cs r s f ∧ ∀ g, isB g → (way x cs r s f).getD 0 0 < (way x cs r s g).getD 0 0 ∨ ((way x cs r s f).getD 0 0 = (way x cs r s g).getD 0 0 ∧ f ≤ g) := by
  have hb : bestT x cs r s = if lexB (way x cs r s 1) (way x cs r s 0) = true then way x cs r s 1 else way x cs r s 0 := rfl
  have hl : lexB (way x cs r s 1) (way x cs r s 0) = decide ((way x cs r s 1).getD 0 0 < (way x cs r s 0).getD 0 0) := by
    show (if (way x cs r s 1).getD 0 0 = (way x cs r s 0).getD 0 0 then (if (1 : Int) = 0 then _ else decide ((1 : Int) < 0)) else decide ((way x cs r s 1).getD 0 0 < (way x cs r s 0).getD 0 0)) = _
    split
    · rw [if_neg (by decide)]
      exact (decide_eq_false (by omega)).symm
    · rfl
  rw [hl] at hb
  by_cases h : (way x cs r s 1).getD 0 0 < (way x cs r s 0).getD 0 0
  · rw [if_pos (decide_eq_true h)] at hb
    refine ⟨1, .inr rfl, hb, fun g hg => ?_⟩
    rcases hg with rfl | rfl
    · exact .inl h
    · exact .inr ⟨rfl, Int.le_refl _⟩
  · rw [if_neg (fun z => h (of_decide_eq_true z))] at hb
    refine ⟨0, .inl rfl, hb, fun g hg => ?_⟩
    rcases hg with rfl | rfl
    · exact .inr ⟨rfl, Int.le_refl _⟩
    · omega
theorem dp_opt {r : Nat} (ok : okR (r : Int)) (tc : List Int) : ∀ (hs : List Int) (s : Int), St4 s →
    GoodBs r (alB s (dpB (r : Int) tc hs)) ∧ costT (r : Int) tc s hs (alB s (dpB (r : Int) tc hs)) = (dpC (r : Int) tc hs).getD s.toNat 0 ∧
    ∀ bs, GoodBs r bs → bs.length = hs.length → (dpC (r : Int) tc hs).getD s.toNat 0 < costT (r : Int) tc s hs bs ∨
      ((dpC (r : Int) tc hs).getD s.toNat 0 = costT (r : Int) tc s hs bs ∧ (bs = alB s (dpB (r : Int) tc hs) ∨ lexB (flatB r (alB s (dpB (r : Int) tc hs))) (flatB r bs) = true))
  | [], s, hst => by
    refine ⟨fun b hb => (nomatch hb), rfl, fun bs hg hl => .inr ⟨?_, .inl (List.length_eq_zero_iff.mp hl)⟩⟩
    rw [List.length_eq_zero_iff.mp hl]
    rfl
  | h :: hs, s, hst => by
    have er : ((r : Int) - 1).toNat = r - 1 := by omega
    obtain ⟨f, hf, eb, hbest⟩ := best_of (x := h) (cs := dpC (r : Int) tc hs) (r := (r : Int)) (s := s)
    obtain ⟨m, e, m0, m1, en, ee, _⟩ := ncl_lin (x := h) (low := clS s f) ok
    rw [er] at m1
    have hB : (bestR h (dpC (r : Int) tc hs) (r : Int)).getD s.toNat [] = way h (dpC (r : Int) tc hs) (r : Int) s f := by rw [best_st hst, eb]
    have hw1 : (way h (dpC (r : Int) tc hs) (r : Int) s f).getD 1 0 = f := rfl
    have hw2 : (way h (dpC (r : Int) tc hs) (r : Int) s f).getD 2 0 = m := by show (ncl h (clS s f) (r : Int)).getD 1 0 = m; rw [en]; rfl
    have hw0 : (way h (dpC (r : Int) tc hs) (r : Int) s f).getD 0 0 = e ^ 2 + (dpC (r : Int) tc hs).getD (mvS s f).toNat 0 := by show (ncl h (clS s f) (r : Int)).getD 0 0 + _ = _; rw [en]; rfl
    have hal : alB s (dpB (r : Int) tc (h :: hs)) = (f, m) :: alB (mvS s f) (dpB (r : Int) tc hs) := by
      show ((_ : Int), (_ : Int)) :: alB _ _ = _
      rw [hB, hw1, hw2]
    have hdc : (dpC (r : Int) tc (h :: hs)).getD s.toNat 0 = e ^ 2 + (dpC (r : Int) tc hs).getD (mvS s f).toNat 0 := by rw [dpC_st hst, eb, hw0]
    obtain ⟨g1, g2, g3⟩ := dp_opt ok tc hs (mvS s f) (mv_st hf)
    rw [hal, hdc]
    refine ⟨fun b hb => ?_, ?_, fun bs hg hl => ?_⟩
    · rcases List.mem_cons.mp hb with rfl | hb
      · exact ⟨hf, m0, m1⟩
      · exact g1 b hb
    · show sqA h (4 * m + clS s f) (r : Int) + costT (r : Int) tc (mvS s f) hs _ = _
      rw [g2]
      unfold sqA
      rw [← ee]
    · obtain ⟨b, bs, rfl⟩ : ∃ b t, bs = b :: t := by
        cases bs with
        | nil => cases hl
        | cons b t => exact ⟨b, t, rfl⟩
      have hl : bs.length = hs.length := Nat.succ.inj hl
      have hb := hg b (.head _)
      have hg' : GoodBs r bs := fun c hc => hg c (.tail _ hc)
      show _ < sqA h (4 * b.2 + clS s b.1) (r : Int) + costT (r : Int) tc (mvS s b.1) hs bs ∨ (_ = sqA h (4 * b.2 + clS s b.1) (r : Int) + costT (r : Int) tc (mvS s b.1) hs bs ∧ _)
      obtain ⟨m', e', m0', m1', en', ee', hn'⟩ := ncl_lin (x := h) (low := clS s b.1) ok
      have hw0' : (way h (dpC (r : Int) tc hs) (r : Int) s b.1).getD 0 0 = e' ^ 2 + (dpC (r : Int) tc hs).getD (mvS s b.1).toNat 0 := by show (ncl h (clS s b.1) (r : Int)).getD 0 0 + _ = _; rw [en']; rfl
      have hc := hbest b.1 hb.1
      rw [hw0, hw0'] at hc
      have hn := hn' b.2 hb.2.1 (by rw [er]; exact hb.2.2)
      have he0 : 0 ≤ e' := by rw [ee']; exact (apart_le _ _).1
      have hsq : e' ^ 2 < sqA h (4 * b.2 + clS s b.1) (r : Int) ∨ (e' ^ 2 = sqA h (4 * b.2 + clS s b.1) (r : Int) ∧ m' ≤ b.2) := by
        unfold sqA
        rcases hn with hn | ⟨hn, hm⟩
        · exact .inl (sq_lt he0 hn)
        · exact .inr ⟨by rw [hn], hm⟩
      obtain ⟨k1, k2, k3⟩ := dp_opt ok tc hs (mvS s b.1) (mv_st hb.1)
      have hk := k3 bs hg' hl
      have hkle : (dpC (r : Int) tc hs).getD (mvS s b.1).toNat 0 ≤ costT (r : Int) tc (mvS s b.1) hs bs := by
        rcases hk with hk | ⟨hk, _⟩
        · omega
        · omega
      by_cases hlt : e ^ 2 + (dpC (r : Int) tc hs).getD (mvS s f).toNat 0 < sqA h (4 * b.2 + clS s b.1) (r : Int) + costT (r : Int) tc (mvS s b.1) hs bs
      · exact .inl hlt
      have hc2 : e ^ 2 + (dpC (r : Int) tc hs).getD (mvS s f).toNat 0 = e' ^ 2 + (dpC (r : Int) tc hs).getD (mvS s b.1).toNat 0 ∧ f ≤ b.1 := by
        rcases hc with hc | hc
        · exfalso
          rcases hsq with z | z <;> omega
        · exact hc
      have hs2 : e' ^ 2 = sqA h (4 * b.2 + clS s b.1) (r : Int) ∧ m' ≤ b.2 := by
        rcases hsq with z | z
        · exfalso
          omega
        · exact z
      have hk2 : (dpC (r : Int) tc hs).getD (mvS s b.1).toNat 0 = costT (r : Int) tc (mvS s b.1) hs bs := by omega
      have hk3 : bs = alB (mvS s b.1) (dpB (r : Int) tc hs) ∨ lexB (flatB r (alB (mvS s b.1) (dpB (r : Int) tc hs))) (flatB r bs) = true := by
        rcases hk with hk | hk
        · exfalso
          omega
        · exact hk.2
      refine .inr ⟨by omega, ?_⟩
      show _ ∨ lexB (f :: (wr (r - 1) m ++ flatB r _)) (b.1 :: (wr (r - 1) b.2 ++ flatB r bs)) = true
      rcases Int.lt_or_eq_of_le hc2.2 with hfb | hfb
      · right
        show (if f = b.1 then _ else decide (f < b.1)) = true
        rw [if_neg (by omega)]
        exact decide_eq_true hfb
      · rw [← hfb] at en' hk3
        have hmm : m' = m := by
          rw [en] at en'
          have h1 := congrArg (fun l : List Int => l.getD 1 0) en'
          exact h1.symm
        rw [hmm] at hs2
        have hlx : ∀ xs ys : List Int, lexB (f :: xs) (b.1 :: ys) = lexB xs ys := fun xs ys => by
          show (if f = b.1 then lexB xs ys else _) = _
          rw [if_pos hfb]
        rw [hlx]
        rcases Int.lt_or_eq_of_le hs2.2 with hmb | hmb
        · right
          exact lex_app _ _ (by rw [wr_len, wr_len]) (wr_lex ok m0 hb.2.2 hmb)
        · rw [← hmb, lex_pre]
          rcases hk3 with z | z
          · left
            rw [z, hfb, hmb]
          · right
            exact z
/-! ### what a row costs -/
def costL (r : Nat) (hs row : List Int) : Int := ((hs.zip (codeL r row)).map fun p => sqA p.1 p.2 (r : Int)).sum
def costZ (r : Int) (s : Int) (hs : List Int) (bs : List Bt) : Int := ((hs.zip (codeB s bs)).map fun p => sqA p.1 p.2 r).sum
theorem costZ_cons (r s h : Int) (hs : List Int) (b : Bt) (bs : List Bt) : costZ r s (h :: hs) (b :: bs) = sqA h (4 * b.2 + clS s b.1) r + costZ r (mvS s b.1) hs bs := by
  show ((_ :: _ : List Int)).sum = _
  rw [List.sum_cons]
  rfl
theorem tail_two (r : Int) (x y s : Int) (h : St4 s) : (tailC r [x, y]).getD s.toNat 0 = costZ r s [x, y] tl2 := by
  rw [show tl2 = [((0 : Int), (0 : Int)), (0, 0)] from rfl, costZ_cons, costZ_cons]
  have h2 : mvS s 0 = 0 ∨ mvS s 0 = 2 := by unfold mvS; omega
  obtain ⟨n, rfl, hn⟩ := st4_nat h
  have e1 : (tailC r [x, y]).getD n 0 = sqA x (clS (n : Int) 0) r + (tailC r [y]).getD (mvS (n : Int) 0).toNat 0 := by
    show ((List.range 4).map fun s => sqA x (clS (s : Nat) 0) r + (tailC r [y]).getD (mvS (s : Nat) 0).toNat 0).getD n 0 = _
    rw [List.getD_eq_getElem?_getD, List.getElem?_map, List.getElem?_range hn]
    rfl
  have e2 : ∀ k : Nat, k < 4 → (tailC r [y]).getD k 0 = sqA y (clS (k : Int) 0) r + 0 := fun k hk => by
    show ((List.range 4).map fun s => sqA y (clS (s : Nat) 0) r + ([0, 0, 0, 0] : List Int).getD (mvS (s : Nat) 0).toNat 0).getD k 0 = _
    rw [List.getD_eq_getElem?_getD, List.getElem?_map, List.getElem?_range hk]
    show sqA y (clS (k : Int) 0) r + ([0, 0, 0, 0] : List Int).getD (mvS (k : Int) 0).toNat 0 = _
    have : ([0, 0, 0, 0] : List Int).getD (mvS (k : Int) 0).toNat 0 = 0 := by
      have : mvS (k : Int) 0 = 0 ∨ mvS (k : Int) 0 = 2 := by unfold mvS; omega
      rcases this with e | e <;> rw [e] <;> rfl
    rw [this]
  rw [Int.toNat_natCast, e1]
  have hm := mv_st (s := (n : Int)) (f := 0) (.inl rfl)
  obtain ⟨k, hk, hk4⟩ := st4_nat hm
  rw [hk, Int.toNat_natCast, e2 k hk4]
  show _ = sqA x (4 * 0 + clS (n : Int) 0) r + (sqA y (4 * 0 + clS (k : Int) 0) r + 0)
  rw [Int.mul_zero, Int.zero_add, Int.zero_add]
theorem cost_split (r : Int) (x y : Int) : ∀ (hs : List Int) (bs : List Bt) (s : Int), St4 s → BitsB bs → bs.length = hs.length → costZ r s (hs ++ [x, y]) (bs ++ tl2) = costT r (tailC r [x, y]) s hs bs
  | [], bs, s, h, _, hl => by
    rw [List.length_eq_zero_iff.mp hl]
    exact (tail_two r x y s h).symm
  | h :: hs, [], _, _, _, hl => nomatch hl
  | h :: hs, b :: bs, s, _, hb, hl => by
    rw [List.cons_append, List.cons_append, costZ_cons, cost_split r x y hs bs _ (mv_st (hb b (.head _))) (fun c hc => hb c (.tail _ hc)) (Nat.succ.inj hl)]
    rfl
theorem two_last {hs : List Int} (h : 2 ≤ hs.length) : ∃ x y, hs.drop (hs.length - 2) = [x, y] ∧ hs = hs.take (hs.length - 2) ++ [x, y] := by
  have hl : (hs.drop (hs.length - 2)).length = 2 := by rw [List.length_drop]; omega
  match e : hs.drop (hs.length - 2), hl with
  | [x, y], _ => exact ⟨x, y, rfl, by rw [← e, List.take_append_drop]⟩
/-- a row, what was heard, and what it costs -/
theorem costL_T {r n : Nat} {hs row : List Int} {x y : Int} (ok : okR (r : Int)) (hB : Bits row) (hl : row.length = r * n) (hn : hs.length = n) : costL r (hs ++ [x, y]) row = costT (r : Int) (tailC (r : Int) [x, y]) 0 hs (bts r n row) := by
  obtain ⟨r1, _⟩ := id ok
  rw [← cost_split (r : Int) x y hs (bts r n row) 0 st4_0 (bts_bits hB) (by rw [bts_len, hn])]
  unfold costL codeL costZ
  rw [rowB_of (by omega) hl]
/-- heard_path's row is the least one of the least cost -/
theorem hp_opt {r : Nat} {hs : List Int} (ok : okR (r : Int)) (h2 : 2 ≤ hs.length) : Bits (hpRow r hs) ∧ (hpRow r hs).length = r * (hs.length - 2) ∧ costL r hs (hpRow r hs) = hpCost r hs ∧
    ∀ row, Bits row → row.length = r * (hs.length - 2) → hpCost r hs < costL r hs row ∨ (hpCost r hs = costL r hs row ∧ (row = hpRow r hs ∨ lexB (hpRow r hs) row = true)) := by
  obtain ⟨r1, _⟩ := id ok
  have hr : 0 < r := by omega
  obtain ⟨x, y, e1, e2⟩ := two_last h2
  have hn : (hs.take (hs.length - 2)).length = hs.length - 2 := by rw [List.length_take]; omega
  obtain ⟨g1, g2, g3⟩ := dp_opt ok (tailC (r : Int) [x, y]) (hs.take (hs.length - 2)) 0 st4_0
  have hrow : hpRow r hs = flatB r (alB 0 (dpB (r : Int) (tailC (r : Int) [x, y]) (hs.take (hs.length - 2)))) := by
    unfold hpRow
    rw [e1, along_al]
  have hcost : hpCost r hs = (dpC (r : Int) (tailC (r : Int) [x, y]) (hs.take (hs.length - 2))).getD 0 0 := by
    unfold hpCost
    rw [e1]
  have hal : (alB 0 (dpB (r : Int) (tailC (r : Int) [x, y]) (hs.take (hs.length - 2)))).length = hs.length - 2 := by rw [alB_len, dpB_len, hn]
  have hbits : Bits (hpRow r hs) := by rw [hrow]; exact flatB_bits g1
  have hlen : (hpRow r hs).length = r * (hs.length - 2) := by rw [hrow, flatB_len hr, hal]
  have hcl : ∀ row, Bits row → row.length = r * (hs.length - 2) → costL r hs row = costT (r : Int) (tailC (r : Int) [x, y]) 0 (hs.take (hs.length - 2)) (bts r (hs.length - 2) row) := fun row hB hl => by
    have := costL_T (x := x) (y := y) ok hB hl hn
    rw [← e2] at this
    exact this
  have hbt : bts r (hs.length - 2) (hpRow r hs) = alB 0 (dpB (r : Int) (tailC (r : Int) [x, y]) (hs.take (hs.length - 2))) := by
    have := bts_flat hr g1
    rw [hal] at this
    rw [hrow]
    exact this
  refine ⟨hbits, hlen, ?_, fun row hB hl => ?_⟩
  · rw [hcl _ hbits hlen, hbt, hcost]
    exact g2
  · have h3 := g3 (bts r (hs.length - 2) row) (bts_good hr hB) (by rw [bts_len, hn])
    rw [flat_bts hr _ hB hl, ← hrow, ← hbt] at h3
    rw [hcl _ hB hl, hcost]
    rcases h3 with h3 | ⟨h3, h4⟩
    · exact .inl h3
    · refine .inr ⟨h3, ?_⟩
      rcases h4 with h4 | h4
      · left
        have := congrArg (flatB r) h4
        rwa [flat_bts hr _ hB hl, flat_bts hr _ hbits hlen] at this
      · exact .inr h4
/-! ### how far rows are from one another -/
theorem ap_tri (a b c : Int) : apartI a c ≤ apartI b a + apartI b c := by
  unfold apartI fold
  split <;> split <;> split <;> omega
theorem sq_two (x y : Int) : (x + y) ^ 2 ≤ 2 * x ^ 2 + 2 * y ^ 2 := by
  have h := sq_nn (x - y)
  rw [sq_mul] at h ⊢
  rw [sq_mul, sq_mul]
  rw [Int.sub_mul, Int.mul_sub, Int.mul_sub, Int.mul_comm y x] at h
  rw [Int.add_mul, Int.mul_add, Int.mul_add, Int.mul_comm y x]
  omega
theorem ap_two (a b c : Int) : apartI a c ^ 2 ≤ 2 * apartI b a ^ 2 + 2 * apartI b c ^ 2 :=
  Int.le_trans (sq_le (apart_le _ _).1 (ap_tri a b c)) (sq_two _ _)
def dZ (r : Int) (cs ds : List Int) : Int := ((cs.zip ds).map fun p => sqA (pointI p.1 r) p.2 r).sum
theorem dZ_cons (r c d : Int) (cs ds : List Int) : dZ r (c :: cs) (d :: ds) = sqA (pointI c r) d r + dZ r cs ds := by
  show ((_ :: _ : List Int)).sum = _
  rw [List.sum_cons]
  rfl
def zS (r : Int) (hs cs : List Int) : Int := ((hs.zip cs).map fun p => sqA p.1 p.2 r).sum
theorem zS_cons (r h c : Int) (hs cs : List Int) : zS r (h :: hs) (c :: cs) = sqA h c r + zS r hs cs := by
  show ((_ :: _ : List Int)).sum = _
  rw [List.sum_cons]
  rfl
theorem dZ_le (r : Int) : ∀ (hs cs ds : List Int), cs.length = hs.length → ds.length = hs.length → dZ r cs ds ≤ 2 * zS r hs cs + 2 * zS r hs ds
  | [], cs, ds, h1, h2 => by
    rw [List.length_eq_zero_iff.mp h1, List.length_eq_zero_iff.mp h2]
    show (0 : Int) ≤ 2 * 0 + 2 * 0
    decide
  | h :: hs, c :: cs, d :: ds, h1, h2 => by
    rw [dZ_cons, zS_cons, zS_cons]
    have h3 := dZ_le r hs cs ds (Nat.succ.inj h1) (Nat.succ.inj h2)
    have h4 := ap_two (pointI c r) h (pointI d r)
    unfold sqA
    omega
  | h :: hs, [], _, h1, _ => nomatch h1
  | h :: hs, _ :: _, [], _, h2 => nomatch h2
theorem sq_sc (k s : Int) : (k * s) ^ 2 = k * k * s ^ 2 := by
  rw [sq_mul, sq_mul, Int.mul_assoc k k, Int.mul_assoc k s, Int.mul_left_comm s k s]
theorem ap_cls {r a b : Int} (ok : okR r) (a0 : 0 ≤ a) (a1 : a < ptsI r) (b0 : 0 ≤ b) (b1 : b < ptsI r) :
    ((a - b) % 4 = 2 → 4 * stepI r ^ 2 ≤ sqA (pointI a r) b r) ∧ ((a - b) % 2 = 1 → stepI r ^ 2 ≤ sqA (pointI a r) b r) ∧ (a ≠ b → (a - b) % 4 = 0 → 16 * stepI r ^ 2 ≤ sqA (pointI a r) b r) := by
  have key : ((a - b) % 4 = 2 → 2 * stepI r ≤ apartI (pointI a r) (pointI b r)) ∧ ((a - b) % 2 = 1 → 1 * stepI r ≤ apartI (pointI a r) (pointI b r)) ∧ (a ≠ b → (a - b) % 4 = 0 → 4 * stepI r ≤ apartI (pointI a r) (pointI b r)) := by
    rcases pts_step ok with ⟨rfl, e1, e2⟩ | ⟨rfl, e1, e2⟩ | ⟨rfl, e1, e2⟩ | ⟨rfl, e1, e2⟩ <;> rw [e1] at a1 b1 <;> simp only [pointI, e2, apartI, fold] <;> refine ⟨fun h => ?_, fun h => ?_, fun h h2 => ?_⟩ <;> split <;> omega
  have hs : 0 ≤ stepI r := by rcases pts_step ok with ⟨_, _, e⟩ | ⟨_, _, e⟩ | ⟨_, _, e⟩ | ⟨_, _, e⟩ <;> rw [e] <;> decide
  unfold sqA
  refine ⟨fun h => ?_, fun h => ?_, fun h h2 => ?_⟩
  · have := sq_le (by omega) (key.1 h)
    rw [sq_sc] at this
    omega
  · have := sq_le (by omega) (key.2.1 h)
    rw [sq_sc] at this
    omega
  · have := sq_le (by omega) (key.2.2 h h2)
    rw [sq_sc] at this
    omega
/-- what is still to come, at least, where two ways stand in these states -/
def vS (s t : Int) : Int := if s % 2 = t % 2 then (if s = t then 0 else 4) else 5
theorem beat_num {r : Nat} {s : Int} {b : Bt} (ok : okR (r : Int)) (hb : isB b.1 ∧ 0 ≤ b.2 ∧ b.2 < 2 ^ (r - 1)) : 0 ≤ 4 * b.2 + clS s b.1 ∧ 4 * b.2 + clS s b.1 < ptsI (r : Int) := by
  have h := cl_st s b.1
  obtain ⟨c0, c1⟩ := h
  have er : ((r : Int) - 1).toNat = r - 1 := by omega
  unfold ptsI
  rw [er]
  have := hb.2.2
  generalize (2 : Int) ^ (r - 1) = x at this ⊢
  omega
theorem step_v {r : Nat} {s t : Int} {b c : Bt} (ok : okR (r : Int)) (hs : St4 s) (ht : St4 t) (hb : isB b.1 ∧ 0 ≤ b.2 ∧ b.2 < 2 ^ (r - 1)) (hc : isB c.1 ∧ 0 ≤ c.2 ∧ c.2 < 2 ^ (r - 1)) :
    vS s t * stepI (r : Int) ^ 2 ≤ sqA (pointI (4 * b.2 + clS s b.1) (r : Int)) (4 * c.2 + clS t c.1) (r : Int) + vS (mvS s b.1) (mvS t c.1) * stepI (r : Int) ^ 2 := by
  obtain ⟨b0, b1⟩ := beat_num (s := s) ok hb
  obtain ⟨c0, c1⟩ := beat_num (s := t) ok hc
  obtain ⟨k1, k2, k3⟩ := ap_cls ok b0 b1 c0 c1
  have h0 : 0 ≤ sqA (pointI (4 * b.2 + clS s b.1) (r : Int)) (4 * c.2 + clS t c.1) (r : Int) := sq_nn _
  have hS := sq_nn (stepI (r : Int))
  generalize stepI (r : Int) ^ 2 = S at k1 k2 k3 hS ⊢
  generalize sqA (pointI (4 * b.2 + clS s b.1) (r : Int)) (4 * c.2 + clS t c.1) (r : Int) = Z at k1 k2 k3 h0 ⊢
  clear b0 b1 c0 c1 k3
  have hcase : vS s t = 0 ∨ (vS s t = 4 ∧ ((4 * b.2 + clS s b.1 - (4 * c.2 + clS t c.1)) % 4 = 2 ∨ vS (mvS s b.1) (mvS t c.1) = 5)) ∨ (vS s t = 5 ∧ (4 * b.2 + clS s b.1 - (4 * c.2 + clS t c.1)) % 2 = 1 ∧ 4 ≤ vS (mvS s b.1) (mvS t c.1)) := by
    obtain ⟨fb, _⟩ := hb
    obtain ⟨fc, _⟩ := hc
    unfold vS clS mvS
    rcases fb with e | e <;> rcases fc with e' | e' <;> rw [e, e'] <;> rcases st4_cases hs with rfl | rfl | rfl | rfl <;> rcases st4_cases ht with rfl | rfl | rfl | rfl <;> simp <;> omega
  have hv : 0 ≤ vS (mvS s b.1) (mvS t c.1) := by
    unfold vS
    split
    · split <;> decide
    · decide
  generalize vS (mvS s b.1) (mvS t c.1) = v at hcase hv
  have hvS : 0 ≤ v * S := Int.mul_nonneg hv hS
  rcases hcase with e | ⟨e, h | h⟩ | ⟨e, h, h2⟩
  · rw [e, Int.zero_mul]
    omega
  · have := k1 h
    rw [e]
    omega
  · rw [e, h]
    omega
  · have := k2 h
    have h3 : 4 * S ≤ v * S := Int.mul_le_mul_of_nonneg_right h2 hS
    rw [e]
    omega
theorem dist_v {r : Nat} (ok : okR (r : Int)) : ∀ (bs cs : List Bt) (s t : Int), St4 s → St4 t → GoodBs r bs → GoodBs r cs → bs.length = cs.length → vS s t * stepI (r : Int) ^ 2 ≤ dZ (r : Int) (codeB s bs) (codeB t cs) + vS (stB s bs) (stB t cs) * stepI (r : Int) ^ 2
  | [], [], s, t, _, _, _, _, _ => by
    show vS s t * _ ≤ 0 + vS s t * _
    omega
  | [], _ :: _, _, _, _, _, _, _, h => nomatch h
  | _ :: _, [], _, _, _, _, _, _, h => nomatch h
  | b :: bs, c :: cs, s, t, hs, ht, hb, hc, hl => by
    have h1 := step_v ok hs ht (hb b (.head _)) (hc c (.head _))
    have h2 := dist_v ok bs cs (mvS s b.1) (mvS t c.1) (mv_st (hb b (.head _)).1) (mv_st (hc c (.head _)).1) (fun x hx => hb x (.tail _ hx)) (fun x hx => hc x (.tail _ hx)) (Nat.succ.inj hl)
    have e1 : stB s (b :: bs) = stB (mvS s b.1) bs := rfl
    have e2 : stB t (c :: cs) = stB (mvS t c.1) cs := rfl
    rw [e1, e2]
    show _ ≤ dZ (r : Int) (_ :: codeB (mvS s b.1) bs) (_ :: codeB (mvS t c.1) cs) + _
    rw [dZ_cons]
    omega
theorem dZ_nn (r : Int) : ∀ (cs ds : List Int), 0 ≤ dZ r cs ds
  | [], _ => Int.le_refl _
  | _ :: _, [] => Int.le_refl _
  | c :: cs, d :: ds => by
    rw [dZ_cons]
    have := dZ_nn r cs ds
    have : 0 ≤ sqA (pointI c r) d r := sq_nn _
    omega
theorem tl2_good {r : Nat} : GoodBs r tl2 := fun b hb => by
  have : b = (0, 0) := by
    rcases List.mem_cons.mp hb with rfl | hb
    · rfl
    · exact List.mem_singleton.mp hb
  rw [this]
  exact ⟨.inl rfl, Int.le_refl _, Int.pow_pos (by decide)⟩
theorem good_app {r : Nat} {bs cs : List Bt} (h1 : GoodBs r bs) (h2 : GoodBs r cs) : GoodBs r (bs ++ cs) := fun b hb => (List.mem_append.mp hb).elim (h1 b) (h2 b)
theorem dist_b {r : Nat} (ok : okR (r : Int)) : ∀ (bs cs : List Bt) (s : Int), St4 s → GoodBs r bs → GoodBs r cs → bs.length = cs.length → bs ≠ cs → 9 * stepI (r : Int) ^ 2 ≤ dZ (r : Int) (codeB s (bs ++ tl2)) (codeB s (cs ++ tl2))
  | [], [], _, _, _, _, _, hn => absurd rfl hn
  | [], _ :: _, _, _, _, _, h, _ => nomatch h
  | _ :: _, [], _, _, _, _, h, _ => nomatch h
  | b :: bs, c :: cs, s, hs, hb, hc, hl, hn => by
    have hl2 : bs.length = cs.length := Nat.succ.inj hl
    have hb1 := hb b (.head _)
    have hc1 := hc c (.head _)
    have hb' : GoodBs r bs := fun x hx => hb x (.tail _ hx)
    have hc' : GoodBs r cs := fun x hx => hc x (.tail _ hx)
    show _ ≤ dZ (r : Int) ((4 * b.2 + clS s b.1) :: codeB (mvS s b.1) (bs ++ tl2)) ((4 * c.2 + clS s c.1) :: codeB (mvS s c.1) (cs ++ tl2))
    rw [dZ_cons]
    have hS := sq_nn (stepI (r : Int))
    have hn2 := dZ_nn (r : Int) (codeB (mvS s b.1) (bs ++ tl2)) (codeB (mvS s c.1) (cs ++ tl2))
    have hz2 : 0 ≤ sqA (pointI (4 * b.2 + clS s b.1) (r : Int)) (4 * c.2 + clS s c.1) (r : Int) := sq_nn _
    obtain ⟨b0, b1⟩ := beat_num (s := s) ok hb1
    obtain ⟨c0, c1⟩ := beat_num (s := s) ok hc1
    obtain ⟨k1, k2, k3⟩ := ap_cls ok b0 b1 c0 c1
    by_cases e : b.1 = c.1
    · by_cases em : b.2 = c.2
      · have hbc : b = c := Prod.ext e em
        subst hbc
        have := dist_b ok bs cs (mvS s b.1) (mv_st hb1.1) hb' hc' hl2 (fun z => hn (by rw [z]))
        omega
      · have h16 := k3 (by rw [e]; omega) (by rw [e]; omega)
        omega
    · have h4 := k1 (by
        have h5 : (clS s b.1 - clS s c.1) % 4 = 2 := by
          rcases hb1.1 with x | x <;> rcases hc1.1 with y | y <;> rw [x, y] at e ⊢ <;> first | exact absurd rfl e | (rcases st4_cases hs with rfl | rfl | rfl | rfl <;> decide)
        omega)
      have h5 := dist_v ok (bs ++ tl2) (cs ++ tl2) (mvS s b.1) (mvS s c.1) (mv_st hb1.1) (mv_st hc1.1) (good_app hb' tl2_good) (good_app hc' tl2_good) (by rw [List.length_append, List.length_append, hl2])
      rw [stB_app, stB_app, st_tl2, st_tl2] at h5
      have e0 : vS 0 0 = 0 := by decide
      have e5 : vS (mvS s b.1) (mvS s c.1) = 5 := by
        unfold vS
        rw [if_neg]
        unfold mvS
        rcases hb1.1 with x | x <;> rcases hc1.1 with y | y <;> rw [x, y] at e ⊢ <;> first | exact absurd rfl e | omega
      rw [e0, e5] at h5
      omega
theorem dist_rows {r n : Nat} {a b : List Int} (ok : okR (r : Int)) (ha : Bits a) (hb : Bits b) (la : a.length = r * n) (lb : b.length = r * n) (hn : a ≠ b) : 9 * stepI (r : Int) ^ 2 ≤ dZ (r : Int) (codeL r a) (codeL r b) := by
  obtain ⟨r1, _⟩ := id ok
  have hr : 0 < r := by omega
  unfold codeL
  rw [rowB_of hr la, rowB_of hr lb]
  refine dist_b ok _ _ 0 st4_0 (bts_good hr ha) (bts_good hr hb) (by rw [bts_len, bts_len]) (fun z => hn ?_)
  have := congrArg (flatB r) z
  rwa [flat_bts hr n ha la, flat_bts hr n hb lb] at this
theorem codeL_len {r n : Nat} {a : List Int} (hr : 0 < r) (la : a.length = r * n) : (codeL r a).length = n + 2 := by
  unfold codeL
  rw [codeB_len, rowB_of hr la, List.length_append, bts_len]
  rfl
theorem two_rows {r n : Nat} {hs a b : List Int} (ok : okR (r : Int)) (hl : hs.length = n + 2) (ha : Bits a) (hb : Bits b) (la : a.length = r * n) (lb : b.length = r * n) (hn : a ≠ b) : 9 * stepI (r : Int) ^ 2 ≤ 2 * costL r hs a + 2 * costL r hs b := by
  obtain ⟨r1, _⟩ := id ok
  exact Int.le_trans (dist_rows ok ha hb la lb hn) (dZ_le (r : Int) hs _ _ (by rw [codeL_len (by omega) la, hl]) (by rw [codeL_len (by omega) lb, hl]))
/-- small noise turns nothing -/
theorem hp_sent {r n : Nat} {hs a : List Int} (ok : okR (r : Int)) (hl : hs.length = n + 2) (ha : Bits a) (la : a.length = r * n) (h : 4 * costL r hs a < 9 * stepI (r : Int) ^ 2) : hpRow r hs = a ∧ hpCost r hs = costL r hs a := by
  obtain ⟨g1, g2, g3, g4⟩ := hp_opt (hs := hs) ok (by omega)
  have en : hs.length - 2 = n := by omega
  rw [en] at g2 g4
  have h5 := g4 a ha la
  by_cases e : hpRow r hs = a
  · exact ⟨e, by rw [← g3, e]⟩
  · have h6 := two_rows ok hl ha g1 la g2 (fun z => e z.symm)
    rw [g3] at h6
    omega
/-- noise of just a quarter -/
theorem hp_zero {r n : Nat} {hs a : List Int} (ok : okR (r : Int)) (hl : hs.length = n + 2) (ha : Bits a) (la : a.length = r * n) (h : 4 * costL r hs a = 9 * stepI (r : Int) ^ 2) (hz : costL r hs (List.replicate (r * n) 0) = costL r hs a) : hpRow r hs = List.replicate (r * n) 0 ∧ hpCost r hs = costL r hs a := by
  obtain ⟨g1, g2, g3, g4⟩ := hp_opt (hs := hs) ok (by omega)
  have en : hs.length - 2 = n := by omega
  rw [en] at g2 g4
  have hzb : Bits (List.replicate (r * n) 0) := fun z hz => .inl (List.eq_of_mem_replicate hz)
  have h5 := g4 _ hzb List.length_replicate
  rw [hz] at h5
  have hle : costL r hs a ≤ hpCost r hs := by
    by_cases e : hpRow r hs = a
    · rw [← g3, e]
      exact Int.le_refl _
    · have h6 := two_rows ok hl ha g1 la g2 (fun z => e z.symm)
      rw [g3] at h6
      omega
  have hlz : ∀ (k : Nat) (xs : List Int), Bits xs → xs.length = k → lexB xs (List.replicate k 0) = false := by
    intro k
    induction k with
    | zero => intro xs _ hx; rw [List.length_eq_zero_iff.mp hx]; rfl
    | succ k ih =>
      intro xs hB hx
      cases xs with
      | nil => cases hx
      | cons x xs =>
        have hb := bits_cons hB
        show (if x = 0 then lexB xs (List.replicate k 0) else decide (x < 0)) = false
        split
        · exact ih xs hb.2 (Nat.succ.inj hx)
        · rcases hb.1 with z | z <;> rw [z] <;> rfl
  rcases h5 with h5 | ⟨h5, h6⟩
  · omega
  · refine ⟨?_, h5⟩
    rcases h6 with h6 | h6
    · exact h6.symm
    · rw [hlz _ _ g1 g2] at h6
      cases h6
/-! ### scramblers: the mathematics -/
def outB (c : List Int) (b : Int) : Int := (b + c.getD 3 0 + c.getD 6 0) % 2
def nxtC (kp : Bool) (c : List Int) (b : Int) : List Int := (if kp = true then outB c b else b) :: c.take 6
def scC (kp : Bool) (c bs : List Int) : List Int := bs.foldl (nxtC kp) c
def scO (kp : Bool) : List Int → List Int → List Int
  | _, [] => []
  | c, b :: r => outB c b :: scO kp (nxtC kp c b) r
def Cells (c : List Int) : Prop := c.length = 7 ∧ Bits c
theorem outB_bit (c : List Int) (b : Int) : isB (outB c b) := by
  unfold outB isB
  omega
theorem nxt_cells {kp : Bool} {c : List Int} {b : Int} (h : Cells c) (hb : isB b) : Cells (nxtC kp c b) := by
  refine ⟨?_, fun z hz => ?_⟩
  · show (c.take 6).length + 1 = 7
    rw [List.length_take, h.1]
    rfl
  · rcases List.mem_cons.mp hz with rfl | hz
    · split
      · exact outB_bit c b
      · exact hb
    · exact h.2 z (List.mem_of_mem_take hz)
theorem scC_more {kp : Bool} {c bs : List Int} {i : Nat} {b : Int} (h : bs[i]? = some b) : scC kp c (bs.take (i + 1)) = nxtC kp (scC kp c (bs.take i)) b := by
  unfold scC
  rw [take_more h, List.foldl_append]
  rfl
theorem scO_app (kp : Bool) : ∀ (as bs c : List Int), scO kp c (as ++ bs) = scO kp c as ++ scO kp (scC kp c as) bs
  | [], bs, c => rfl
  | a :: as, bs, c => by
    show outB c a :: scO kp (nxtC kp c a) (as ++ bs) = outB c a :: (scO kp (nxtC kp c a) as ++ scO kp (scC kp (nxtC kp c a) as) bs)
    rw [scO_app kp as bs]
theorem scC_app (kp : Bool) (as bs c : List Int) : scC kp c (as ++ bs) = scC kp (scC kp c as) bs := by
  unfold scC
  rw [List.foldl_append]
theorem scO_more {kp : Bool} {c bs : List Int} {i : Nat} {b : Int} (h : bs[i]? = some b) : scO kp c (bs.take (i + 1)) = scO kp c (bs.take i) ++ [outB (scC kp c (bs.take i)) b] := by
  rw [take_more h, scO_app]
  rfl
theorem scO_len (kp : Bool) : ∀ (bs c : List Int), (scO kp c bs).length = bs.length
  | [], c => rfl
  | b :: r, c => congrArg (· + 1) (scO_len kp r _)
theorem scO_bits (kp : Bool) : ∀ (bs c : List Int), Bits (scO kp c bs)
  | [], c => bits_nil
  | b :: r, c => fun z hz => by
    rcases List.mem_cons.mp hz with rfl | hz
    · exact outB_bit c b
    · exact scO_bits kp r _ z hz
theorem scC_cells {kp : Bool} : ∀ {bs c : List Int}, Cells c → Bits bs → Cells (scC kp c bs)
  | [], c, h, _ => h
  | b :: r, c, h, hb => scC_cells (bs := r) (nxt_cells h (bits_cons hb).1) (bits_cons hb).2
theorem cells_wr (n : Int) : Cells (wr 7 n) := ⟨wr_len 7 n, wr_bits 7 n⟩
theorem xor_bits {x y : Int} (hx : isB x) (hy : isB y) : Builtin.bitXor x y = (x + y) % 2 := by
  rcases hx with rfl | rfl <;> rcases hy with rfl | rfl <;> decide
theorem xor_out {c : List Int} {b : Int} (h : Cells c) (hb : isB b) : Builtin.bitXor (Builtin.bitXor b (c.getD 3 0)) (c.getD 6 0) = outB c b := by
  have h3 : isB (c.getD 3 0) := by
    rw [List.getD_eq_getElem?_getD, List.getElem?_eq_getElem (by rw [h.1]; decide)]
    exact h.2 _ (List.getElem_mem _)
  have h6 : isB (c.getD 6 0) := by
    rw [List.getD_eq_getElem?_getD, List.getElem?_eq_getElem (by rw [h.1]; decide)]
    exact h.2 _ (List.getElem_mem _)
  rw [xor_bits hb h3, xor_bits (by unfold isB; omega) h6]
  unfold outB
  omega
theorem cells_at {c : List Int} (h : Cells c) (i : Nat) (hi : i < 7) : (c.map V.int)[i]? = some (.int (c.getD i 0)) := by
  rw [List.getElem?_map, List.getElem?_eq_getElem (by rw [h.1]; exact hi), List.getD_eq_getElem?_getD, List.getElem?_eq_getElem (by rw [h.1]; exact hi)]
  rfl
/-- bits to a number and back -/
theorem wr_bn7 {c : List Int} (h : Cells c) : wr 7 (bn c) = c := by
  have := wr_bn c h.2 0
  rw [h.1] at this
  rwa [Int.zero_mul, Int.zero_add] at this
theorem sc_pushed_through : FnScope ["cells", "bits", "keeps_out", "out", "bit", "told", "kept"] ["cells", "bits", "keeps_out"] (defScope s_pushed_through) := ⟨rfl, rfl, rfl, by decide +kernel, rfl, by decide +kernel, by decide +kernel⟩
def spPT (K : PySem.W.Frag) (cB : Addr) : Sp := fun vs H Q E => ∃ (l a : Addr) (kp : Bool) (c ns : List Int), vs = [.ref l, .ref a, .bl kp] ∧ H l = some (.lst (c.map V.int)) ∧ SqL K H a (ns.map V.int) ∧ Cells c ∧ ns.length ≤ 10000 ∧
  (Bits ns → ∀ (H' : Hp) (p o l' : Addr), Same H H' → H p = none → H' p = some (.tup [.ref o, .ref l']) → H o = none → H' o = some (.lst ((scO kp c ns).map V.int)) → (l' = l ∨ H l' = none) → H' l' = some (.lst ((scC kp c ns).map V.int)) → o ≠ l' → Q (.ref p) H') ∧
  (∀ (i : Nat) (z : Int), ns[i]? = some z → ¬ isB z → Bits (ns.take i) → ∀ H' d, Same H H' → H d = none → H' d = some (.xd [(("at" : Str), .int (i : Int)), (("word" : Str), .str "BadBit")]) → E (.ref cB) (some d) H')
theorem ok_pushed_through {f cB : Addr} {fd : FuncData} {k : Nat} {t3 t6 : Tok} (F : Fun K "pushed_through" "pushed_through" s_pushed_through f fd) (g_FOURTH : mg "FOURTH" = some (.int 3 t3)) (g_SEVENTH : mg "SEVENTH" = some (.int 6 t6)) (c_check_bits : CalX P w K mg base k "check_bits" ["bits"] (spCheckX K cB)) :
    FnOk P w K mg base (L2.CX P w) (k + 1) f fd ["cells", "bits", "keeps_out"] (spPT K cB) := by
  have sc := sc_pushed_through
  refine F.okX sc (fun vs H Q E h => ?_) (fun cdv A outer s H vs Q E hr h => ?_)
  · obtain ⟨l, a, kp, c, ns, rfl, _⟩ := h
    rfl
  · obtain ⟨l, a, kp, c, ns, rfl, hl, hS, hc, hlen, q, qe⟩ := h
    refine ⟨_, (pss_cons (ps_expr (pe_callP c_check_bits hr (passes_call (takes_of rfl rfl rfl rfl) (fun _ _ _ _ h => h)) (by rfl) (pa_cons (pv 1) pa_nil)))
 (pss_cons (ps_set (i := 3) sc.nd rfl (.inl rfl) (pe_lst pa_nil))
 (pss_cons (ps_for (passes_of rfl) rfl (pi_listK K rfl (pv 1)) (pg_name (i := 4) sc.nd rfl (.inl rfl))
  (pss_cons (ps_set (i := 5) sc.nd rfl (.inl rfl) (pe_op op_xor (pe_op op_xor (pv 4) (pe_ix (ix_listK K rfl) (pv 0) (pe_glob (v := .int 3) (by rfl) g_FOURTH ⟨_, rfl⟩) (fun _ _ => rfl))) (pe_ix (ix_listK K rfl) (pv 0) (pe_glob (v := .int 6) (by rfl) g_SEVENTH ⟨_, rfl⟩) (fun _ _ => rfl))))
 (pss_cons (ps_expr (pe_bmK K rfl PySem.F.plainAttrs_list PySem.F.slot_list_append PySem.F.type_list_append mt_append (pv 3) (pa_cons (pv 5) pa_nil)))
 (pss_cons (ps_set (i := 6) sc.nd rfl (.inl rfl) (pe_ifExp (pt_val (pv 2)) (pv 5) (pv 4)))
 (pss_one (ps_set (i := 0) sc.nd rfl (.inl rfl) (pe_op op_cat (pe_lst (pa_cons (pv 6) pa_nil)) (pe_slice (sl_listK K rfl) (pv 0) po_none (po_some (pe_un un_neg pe_int))))))))))
 (pss_one (ps_ret (pe_tup (pa_cons (pv 3) (pa_cons (pv 0) pa_nil)))))))), ?_⟩
    refine ⟨_, rfl, a, ns, rfl, hS, by omega, fun hB H1 s1 => ?_, qe⟩
    refine ⟨Nat.zero_le _, fun o no => ?_⟩
    have no0 : H o = none := s1.free no
    have s2 := s1.trans (same_upd (o := .lst []) no)
    refine ⟨_, rfl, a, rfl, ⟨_, s2.seq hS⟩, for_list (K := K) (a := a) (xs := ns.map V.int) (fun i σ H' => ∃ (l' : Addr) (y4 y5 y6 : Option V), σ = [some (.ref l'), some (.ref a), some (.bl kp), some (.ref o), y4, y5, y6] ∧ Same H H' ∧ H' o = some (.lst ((scO kp c (ns.take i)).map V.int)) ∧
      H' l' = some (.lst ((scC kp c (ns.take i)).map V.int)) ∧ (l' = l ∨ H l' = none) ∧ o ≠ l') ⟨l, none, none, none, rfl, s2, upd_same, s2 _ _ hl, .inl rfl, (ne_of_none hl no0).symm⟩ (fun i σ H' _ h => ?_) ?_ ?_⟩
    · obtain ⟨_, _, _, _, _, sm, _⟩ := h
      exact sm.seq hS
    · rintro i x σ H2 hx ⟨l', y4, y5, y6, rfl, sm, eo, el, hl', nol⟩
      obtain ⟨z, hz, rfl⟩ := getI hx
      have hzb : isB z := hB z (List.mem_of_getElem? hz)
      have hcc : Cells (scC kp c (ns.take i)) := scC_cells hc (bits_take hB _)
      have hil : i < ns.length := (List.getElem?_eq_some_iff.mp hz).1
      have hol := scO_len kp (ns.take i) c
      rw [List.length_take] at hol
      rw [scC_more hz, scO_more hz]
      generalize scC kp c (ns.take i) = cc at *
      generalize scO kp c (ns.take i) = oo at *
      refine ⟨_, rfl, _, rfl, l', _, _, _, rfl, rfl, SqL.of el, atI_nat (cells_at hcc 3 (by decide)), _, _, rfl, rfl, _, rfl, l', _, _, _, rfl, rfl, SqL.of el, atI_nat (cells_at hcc 6 (by decide)), _, _, rfl, rfl, ?_⟩
      refine name_by ?_
      dsimp only
      rw [xor_out hcc hzb]
      refine ⟨_, rfl, .inl ⟨rfl, _, SqL.of eo⟩, _, rfl, o, _, _, rfl, rfl, eo, ?_, ?_⟩
      · rw [List.length_map]
        exact sz4l (by omega)
      have sm2 : Same H (upd H2 o (.lst (oo.map V.int ++ [.int (outB cc z)]))) := same_mut sm no0
      have eo2 : upd H2 o (.lst (oo.map V.int ++ [.int (outB cc z)])) o = some (.lst ((oo ++ [outB cc z]).map V.int)) := by
        rw [upd_same, List.map_append]
        rfl
      have el2 : upd H2 o (.lst (oo.map V.int ++ [.int (outB cc z)])) l' = some (.lst (cc.map V.int)) := by
        rw [upd_ne nol.symm]
        exact el
      generalize upd H2 o (.lst (oo.map V.int ++ [.int (outB cc z)])) = H3 at sm2 eo2 el2 ⊢
      dsimp only
      refine asg_by (J := fun v H4 => v = .int (if kp = true then outB cc z else z) ∧ H4 = H3) ?_ (fun rest => ?_)
      · rintro v H4 ⟨rfl, rfl⟩
        refine ⟨_, rfl, (by show 1 ≤ sizeLine; decide), fun p1 n1 => ?_⟩
        have s3 := sm2.trans (same_upd (o := .lst [.int (if kp = true then outB cc z else z)]) n1)
        have el3 := same_upd (o := .lst [.int (if kp = true then outB cc z else z)]) n1 _ _ el2
        have eo3 := same_upd (o := .lst [.int (if kp = true then outB cc z else z)]) n1 _ _ eo2
        have ep3 : upd H4 p1 (.lst [.int (if kp = true then outB cc z else z)]) p1 = some (.lst [.int (if kp = true then outB cc z else z)]) := upd_same
        generalize upd H4 p1 (.lst [.int (if kp = true then outB cc z else z)]) = H5 at s3 el3 eo3 ep3 ⊢
        refine ⟨_, rfl, 1, rfl, _, rfl, l', _, rfl, SqL.of el3, fun p2 n2 => ?_⟩
        have ec : cutV (cc.map V.int) none (some (-1)) = (cc.take 6).map V.int := by
          have := cut_to_b (cc.map V.int) 1 (by decide)
          rw [List.length_map, hcc.1, ← List.map_take] at this
          exact this
        rw [ec]
        have s4 := s3.trans (same_upd (o := .lst ((cc.take 6).map V.int)) n2)
        refine ⟨p1, p2, _, _, rfl, rfl, same_upd n2 _ _ ep3, upd_same, ?_, fun p3 n3 => ?_⟩
        · rw [List.length_map, List.length_take, hcc.1]
          exact sz4 (by show 1 + min 6 7 ≤ 100000; decide)
        have s5 := s4.trans (same_upd (o := .lst ([.int (if kp = true then outB cc z else z)] ++ (cc.take 6).map V.int)) n3)
        refine ⟨p3, _, _, _, rfl, s5, same_upd n3 _ _ (same_upd n2 _ _ eo3), upd_same, .inr (s4.free n3), ne_of_none (same_upd n2 _ _ eo3) n3⟩
      · refine ⟨_, rfl, kp, rfl, ?_⟩
        cases kp with
        | true => exact iteT ⟨_, rfl, rest _ _ ⟨rfl, rfl⟩⟩
        | false => exact iteF ⟨_, rfl, rest _ _ ⟨rfl, rfl⟩⟩
    · rintro σ H2 ⟨l', y4, y5, y6, rfl, sm, eo, el, hl', nol⟩
      rw [List.length_map, List.take_length] at eo el
      refine ⟨_, rfl, _, rfl, (by show 2 ≤ sizeLine; decide), fun p np => ?_⟩
      exact q hB _ p o l' (sm.trans (same_upd np)) (sm.free np) upd_same no0 (same_upd np _ _ eo) hl' (same_upd np _ _ el) nol
/-! ### scramblers as objects -/
structure ScC (K : PySem.W.Frag) (C : Addr) : Prop where
  cls : Cls K C
  nc : NoAttr K C "cells"
abbrev scF (l : Addr) : List (Str × V) := [(("cells" : Str), .ref l)]
structure Scr (C r l : Addr) (c : List Int) (H : Hp) : Prop where
  ins : ∃ dx, H r = some (.ins C dx (scF l))
  mem : H l = some (.lst (c.map V.int))
  ok : Cells c
def tSc (C r l : Addr) (c : List Int) : Th := ⟨[r, l], Scr C r l c, fun H H' k h => by
  obtain ⟨⟨dx, h1⟩, h2, h3⟩ := h
  exact ⟨⟨dx, k _ (.head _) _ h1⟩, k _ (.tail _ (.head _)) _ h2, h3⟩, fun H h a ha => by
  obtain ⟨⟨dx, h1⟩, h2, h3⟩ := h
  rcases List.mem_cons.mp ha with rfl | ha
  · exact ⟨_, h1, trivial⟩
  · rw [List.mem_singleton.mp ha]
    exact ⟨_, h2, trivial⟩⟩
theorem Scr.ne {C r l : Addr} {c : List Int} {H : Hp} (h : Scr C r l c H) : l ≠ r := fun z => by
  obtain ⟨⟨dx, h1⟩, h2, _⟩ := h
  rw [z, h1] at h2
  cases h2
theorem Scr.al {C r l : Addr} {c : List Int} {H : Hp} (h : Scr C r l c H) : H r ≠ none ∧ H l ≠ none := by
  obtain ⟨⟨dx, h1⟩, h2, _⟩ := h
  rw [h1, h2]
  exact ⟨(fun z => nomatch z), (fun z => nomatch z)⟩
theorem in2' {a r b : Addr} (h : a ∈ [r, b]) : a = r ∨ a = b := by simpa using h
def spSi (C cN : Addr) : Sp := fun vs H Q E => ∃ (r dx : Addr) (n : Int), vs = [.ref r, .int n] ∧ H r = some (.ins C dx []) ∧
  (0 ≤ n → n < 128 → ∀ (H' : Hp) (l : Addr), MvF [r] H H' → H l = none → H' r = some (.ins C dx (scF l)) → H' l = some (.lst ((wr 7 n).map V.int)) → Q .non H') ∧
  (n < 0 ∨ 128 ≤ n → ∀ H' d, Same H H' → H d = none → H' d = some (.xd [(("word" : Str), .str "BadCount")]) → E (.ref cN) (some d) H')
def spPush (kp : Bool) (C cB : Addr) : Sp := fun vs H Q E => ∃ (r l a : Addr) (c ns : List Int), vs = [.ref r, .ref a] ∧ Scr C r l c H ∧ H a = some (.lst (ns.map V.int)) ∧ ns.length ≤ 10000 ∧
  (Bits ns → ∀ (H' : Hp) (o l' : Addr), MvF [r] H H' → H o = none → H' o = some (.lst ((scO kp c ns).map V.int)) → (l' = l ∨ H l' = none) → Scr C r l' (scC kp c ns) H' → o ≠ l' → Q (.ref o) H') ∧
  (∀ (i : Nat) (z : Int), ns[i]? = some z → ¬ isB z → Bits (ns.take i) → ∀ H' d, Same H H' → H d = none → H' d = some (.xd [(("at" : Str), .int (i : Int)), (("word" : Str), .str "BadBit")]) → E (.ref cB) (some d) H')
def spMem (C : Addr) : Sp := fun vs H Q _ => ∃ (r l : Addr) (c : List Int), vs = [.ref r] ∧ Scr C r l c H ∧ ∀ H', Same H H' → Q (.int (bn c)) H'
def spTwinS (C : Addr) : Sp := fun vs H Q _ => ∃ (r l : Addr) (c : List Int), vs = [.ref r] ∧ Scr C r l c H ∧ ∀ (H' : Hp) (r' l' : Addr), Same H H' → H r' = none → H l' = none → Scr C r' l' c H' → Q (.ref r') H'
theorem Hs.pushSc {T0 : List (Addr × Str)} {Ts : List Th} {C r l l' o : Addr} {c c' : List Int} {out : List V} {H H' : Hp} (h : Hs T0 Ts H) (i : Nat) (hi : Ts[i]? = some (tSc C r l c)) (m : MvF [r] H H') (no : H o = none) (eo : H' o = some (.lst out)) (hl' : l' = l ∨ H l' = none) (p : Scr C r l' c' H') (nol : o ≠ l') : Hs T0 (tL o out :: Ts.set i (tSc C r l' c')) H' := by
  have hp : Scr C r l c H := h.get i hi
  refine h.opNew (T := tSc C r l c) (T' := tSc C r l' c') (N := tL o out) i hi m (fun a ha => by rw [in1 ha]; exact .inl (.head _)) p (fun a ha => ?_) ⟨eo, trivial⟩ (fun a ha => ?_)
  · rcases in2' ha with rfl | rfl
    · exact .inl (.head _)
    · rcases hl' with rfl | y
      · exact .inl (.tail _ (.head _))
      · exact .inr y
  · rw [in1 ha]
    refine ⟨no, fun z => ?_⟩
    rcases in2' z with y | y
    · exact hp.al.1 (y ▸ no)
    · exact nol y
theorem sc_Scrambler___init__ : FnScope ["self", "seed"] ["self", "seed"] (defScope m_Scrambler___init__) := ⟨rfl, rfl, rfl, by decide +kernel, rfl, by decide +kernel, by decide +kernel⟩
theorem ok_Scrambler___init__ {f C cN : Addr} {fd : FuncData} {k : Nat} {kws : List (Str × V)} {t7 : Tok} (F : FunD K "__init__" "Scrambler.__init__" (defArgs m_Scrambler___init__) (defBody m_Scrambler___init__) (defScope m_Scrambler___init__) [] kws f fd) (R : ScC K C) (g_MEMORY_BITS : mg "MEMORY_BITS" = some (.int 7 t7)) (c_number_bits : CalX P w K mg base k "number_bits" ["number", "many"] (spNbX cN)) :
    FnOk P w K mg base (L2.CX P w) (k + 1) f fd ["self", "seed"] (spSi C cN) := by
  have sc := sc_Scrambler___init__
  refine F.ok sc (fun vs H Q E h => ?_) (fun cdv A outer s H vs Q E hr h => ?_)
  · obtain ⟨r, dx, n, rfl, _⟩ := h
    rfl
  · obtain ⟨r, dx, n, rfl, hr_, q, qn⟩ := h
    refine ⟨_, (pss_one (ps_fldK K rfl (pv 0) (pe_callP c_number_bits hr (passes_call (takes_of rfl rfl rfl rfl) (fun _ _ _ _ h => h)) (by rfl) (pa_cons (pv 1) (pa_cons (pe_glob (v := .int 7) (by rfl) g_MEMORY_BITS ⟨_, rfl⟩) pa_nil))))), ?_⟩
    refine ⟨_, rfl, n, 7, rfl, (fun m em _ h0 h1 H1 l s1 nl el => ?_), (fun bad => qn (by
      rcases bad with h | h | h | h
      · exact absurd h (by decide)
      · exact absurd h (by decide)
      · exact .inl h
      · exact .inr h))⟩
    obtain rfl : m = 7 := by omega
    refine ⟨_, rfl, r, C, dx, _, rfl, s1 _ _ hr_, R.cls, R.nc, (by show 0 < 1000; decide), ?_⟩
    have nlr : l ≠ r := (ne_of_none hr_ nl).symm
    refine q h0 h1 _ l ((MvF.of s1).upd (.head _)) nl upd_same ?_
    rw [upd_ne nlr]
    exact el
theorem sc_Scrambler_push : FnScope ["self", "bits", "out", "cells"] ["self", "bits"] (defScope m_Scrambler_push) := ⟨rfl, rfl, rfl, by decide +kernel, rfl, by decide +kernel, by decide +kernel⟩
theorem ok_Scrambler_push {f C cB : Addr} {fd : FuncData} {k : Nat} (F : Fun K "push" "Scrambler.push" m_Scrambler_push f fd) (R : ScC K C) (c_pushed_through : CalX P w K mg base k "pushed_through" ["cells", "bits", "keeps_out"] (spPT K cB)) :
    FnOk P w K mg base (L2.CX P w) (k + 1) f fd ["self", "bits"] (spPush true C cB) := by
  have sc := sc_Scrambler_push
  refine F.okX sc (fun vs H Q E h => ?_) (fun cdv A outer s H vs Q E hr h => ?_)
  · obtain ⟨r, l, a, c, ns, rfl, _⟩ := h
    rfl
  · obtain ⟨r, l, a, c, ns, rfl, hsc, ha, hlen, q, qe⟩ := h
    refine ⟨_, (pss_cons (ps_asg (pe_callP c_pushed_through hr (passes_call (takes_of rfl rfl rfl rfl) (fun _ _ _ _ h => h)) (by rfl) (pa_cons (pe_fldK K rfl (pv 0)) (pa_cons (pv 1) (pa_cons pe_bl pa_nil)))) (pg_tup rfl (pgs_cons (pg_name (i := 2) sc.nd rfl (.inl rfl)) (pgs_cons (pg_name (i := 3) sc.nd rfl (.inl rfl)) pgs_nil))))
 (pss_cons (ps_fldK K rfl (pv 0) (pv 3))
 (pss_one (ps_ret (pv 2))))), ?_⟩
    obtain ⟨⟨dx, hins⟩, hmem, hcl⟩ := id hsc
    refine ⟨_, rfl, r, C, dx, _, _, rfl, hins, R.cls, R.nc, rfl, _, rfl, l, a, true, c, ns, rfl, hmem, SqL.of ha, hcl, hlen, (fun hB H1 p o l' s1 np ep no eo hl' el nol => ?_), qe⟩
    refine ⟨p, _, rfl, SqT.of ep, rfl, _, _, rfl, _, _, rfl, rfl, ?_⟩
    refine ⟨_, rfl, _, rfl, r, C, dx, _, rfl, s1 _ _ hins, R.cls, R.nc, (by show 1 < 1000; decide), ?_⟩
    have nor : o ≠ r := (ne_of_none hins no).symm
    have nlr : l' ≠ r := fun z => by
      rw [z, s1 _ _ hins] at el
      cases el
    refine ⟨_, rfl, q hB _ o l' ((MvF.of s1).upd (.head _)) no ?_ hl' ⟨⟨dx, upd_same⟩, ?_, scC_cells hcl hB⟩ nol⟩
    · rw [upd_ne nor]
      exact eo
    · rw [upd_ne nlr]
      exact el
theorem sc_Scrambler_memory : FnScope ["self"] ["self"] (defScope m_Scrambler_memory) := ⟨rfl, rfl, rfl, by decide +kernel, rfl, by decide +kernel, by decide +kernel⟩
theorem ok_Scrambler_memory {f C cB cN : Addr} {fd : FuncData} {k : Nat} (F : Fun K "memory" "Scrambler.memory" m_Scrambler_memory f fd) (R : ScC K C) (c_bits_number : CalX P w K mg base k "bits_number" ["bits"] (spBnX K cB cN)) :
    FnOk P w K mg base CX0 (k + 1) f fd ["self"] (spMem C) := by
  have sc := sc_Scrambler_memory
  refine F.ok sc (fun vs H Q E h => ?_) (fun cdv A outer s H vs Q E hr h => ?_)
  · obtain ⟨r, l, c, rfl, _⟩ := h
    rfl
  · obtain ⟨r, l, c, rfl, ⟨⟨dx, hins⟩, hmem, hcl⟩, q⟩ := h
    refine ⟨_, (pss_one (ps_ret (pe_callF c_bits_number hr (by rfl) (pa_cons (pe_fldK K rfl (pv 0)) pa_nil)))), ?_⟩
    exact ⟨_, rfl, r, C, dx, _, _, rfl, hins, R.cls, R.nc, rfl, l, c, rfl, SqL.of hmem, (by rw [hcl.1]; decide), (fun _ _ H1 s1 => q H1 s1), (fun _ h => absurd h (by rw [hcl.1]; decide)), (fun i z hz nb => (nb (hcl.2 z (List.mem_of_getElem? hz))).elim)⟩
theorem sc_Descrambler___init__ : FnScope ["self", "seed"] ["self", "seed"] (defScope m_Descrambler___init__) := ⟨rfl, rfl, rfl, by decide +kernel, rfl, by decide +kernel, by decide +kernel⟩
theorem ok_Descrambler___init__ {f C cN : Addr} {fd : FuncData} {k : Nat} {kws : List (Str × V)} {t7 : Tok} (F : FunD K "__init__" "Descrambler.__init__" (defArgs m_Descrambler___init__) (defBody m_Descrambler___init__) (defScope m_Descrambler___init__) [] kws f fd) (R : ScC K C) (g_MEMORY_BITS : mg "MEMORY_BITS" = some (.int 7 t7)) (c_number_bits : CalX P w K mg base k "number_bits" ["number", "many"] (spNbX cN)) :
    FnOk P w K mg base (L2.CX P w) (k + 1) f fd ["self", "seed"] (spSi C cN) := by
  have sc := sc_Descrambler___init__
  refine F.ok sc (fun vs H Q E h => ?_) (fun cdv A outer s H vs Q E hr h => ?_)
  · obtain ⟨r, dx, n, rfl, _⟩ := h
    rfl
  · obtain ⟨r, dx, n, rfl, hr_, q, qn⟩ := h
    refine ⟨_, (pss_one (ps_fldK K rfl (pv 0) (pe_callP c_number_bits hr (passes_call (takes_of rfl rfl rfl rfl) (fun _ _ _ _ h => h)) (by rfl) (pa_cons (pv 1) (pa_cons (pe_glob (v := .int 7) (by rfl) g_MEMORY_BITS ⟨_, rfl⟩) pa_nil))))), ?_⟩
    refine ⟨_, rfl, n, 7, rfl, (fun m em _ h0 h1 H1 l s1 nl el => ?_), (fun bad => qn (by
      rcases bad with h | h | h | h
      · exact absurd h (by decide)
      · exact absurd h (by decide)
      · exact .inl h
      · exact .inr h))⟩
    obtain rfl : m = 7 := by omega
    refine ⟨_, rfl, r, C, dx, _, rfl, s1 _ _ hr_, R.cls, R.nc, (by show 0 < 1000; decide), ?_⟩
    have nlr : l ≠ r := (ne_of_none hr_ nl).symm
    refine q h0 h1 _ l ((MvF.of s1).upd (.head _)) nl upd_same ?_
    rw [upd_ne nlr]
    exact el
theorem sc_Descrambler_push : FnScope ["self", "bits", "out", "cells"] ["self", "bits"] (defScope m_Descrambler_push) := ⟨rfl, rfl, rfl, by decide +kernel, rfl, by decide +kernel, by decide +kernel⟩
theorem ok_Descrambler_push {f C cB : Addr} {fd : FuncData} {k : Nat} (F : Fun K "push" "Descrambler.push" m_Descrambler_push f fd) (R : ScC K C) (c_pushed_through : CalX P w K mg base k "pushed_through" ["cells", "bits", "keeps_out"] (spPT K cB)) :
    FnOk P w K mg base (L2.CX P w) (k + 1) f fd ["self", "bits"] (spPush false C cB) := by
  have sc := sc_Descrambler_push
  refine F.okX sc (fun vs H Q E h => ?_) (fun cdv A outer s H vs Q E hr h => ?_)
  · obtain ⟨r, l, a, c, ns, rfl, _⟩ := h
    rfl
  · obtain ⟨r, l, a, c, ns, rfl, hsc, ha, hlen, q, qe⟩ := h
    refine ⟨_, (pss_cons (ps_asg (pe_callP c_pushed_through hr (passes_call (takes_of rfl rfl rfl rfl) (fun _ _ _ _ h => h)) (by rfl) (pa_cons (pe_fldK K rfl (pv 0)) (pa_cons (pv 1) (pa_cons pe_bl pa_nil)))) (pg_tup rfl (pgs_cons (pg_name (i := 2) sc.nd rfl (.inl rfl)) (pgs_cons (pg_name (i := 3) sc.nd rfl (.inl rfl)) pgs_nil))))
 (pss_cons (ps_fldK K rfl (pv 0) (pv 3))
 (pss_one (ps_ret (pv 2))))), ?_⟩
    obtain ⟨⟨dx, hins⟩, hmem, hcl⟩ := id hsc
    refine ⟨_, rfl, r, C, dx, _, _, rfl, hins, R.cls, R.nc, rfl, _, rfl, l, a, false, c, ns, rfl, hmem, SqL.of ha, hcl, hlen, (fun hB H1 p o l' s1 np ep no eo hl' el nol => ?_), qe⟩
    refine ⟨p, _, rfl, SqT.of ep, rfl, _, _, rfl, _, _, rfl, rfl, ?_⟩
    refine ⟨_, rfl, _, rfl, r, C, dx, _, rfl, s1 _ _ hins, R.cls, R.nc, (by show 1 < 1000; decide), ?_⟩
    have nor : o ≠ r := (ne_of_none hins no).symm
    have nlr : l' ≠ r := fun z => by
      rw [z, s1 _ _ hins] at el
      cases el
    refine ⟨_, rfl, q hB _ o l' ((MvF.of s1).upd (.head _)) no ?_ hl' ⟨⟨dx, upd_same⟩, ?_, scC_cells hcl hB⟩ nol⟩
    · rw [upd_ne nor]
      exact eo
    · rw [upd_ne nlr]
      exact el
theorem sc_Descrambler_memory : FnScope ["self"] ["self"] (defScope m_Descrambler_memory) := ⟨rfl, rfl, rfl, by decide +kernel, rfl, by decide +kernel, by decide +kernel⟩
theorem ok_Descrambler_memory {f C cB cN : Addr} {fd : FuncData} {k : Nat} (F : Fun K "memory" "Descrambler.memory" m_Descrambler_memory f fd) (R : ScC K C) (c_bits_number : CalX P w K mg base k "bits_number" ["bits"] (spBnX K cB cN)) :
    FnOk P w K mg base CX0 (k + 1) f fd ["self"] (spMem C) := by
  have sc := sc_Descrambler_memory
  refine F.ok sc (fun vs H Q E h => ?_) (fun cdv A outer s H vs Q E hr h => ?_)
  · obtain ⟨r, l, c, rfl, _⟩ := h
    rfl
  · obtain ⟨r, l, c, rfl, ⟨⟨dx, hins⟩, hmem, hcl⟩, q⟩ := h
    refine ⟨_, (pss_one (ps_ret (pe_callF c_bits_number hr (by rfl) (pa_cons (pe_fldK K rfl (pv 0)) pa_nil)))), ?_⟩
    exact ⟨_, rfl, r, C, dx, _, _, rfl, hins, R.cls, R.nc, rfl, l, c, rfl, SqL.of hmem, (by rw [hcl.1]; decide), (fun _ _ H1 s1 => q H1 s1), (fun _ h => absurd h (by rw [hcl.1]; decide)), (fun i z hz nb => (nb (hcl.2 z (List.mem_of_getElem? hz))).elim)⟩
/-! ### shapers as objects -/
structure ShC (K : PySem.W.Frag) (C : Addr) : Prop where
  cls : Cls K C
  nt : NoAttr K C "taps"
  nn : NoAttr K C "tones"
abbrev shF (t l : Addr) : List (Str × V) := [(("taps" : Str), .ref t), (("tones" : Str), .ref l)]
structure Shp (C r l t : Addr) (ns : List Int) (H : Hp) : Prop where
  ins : ∃ dx, H r = some (.ins C dx (shF t l))
  mem : H l = some (.lst (ns.map V.int))
def tSh (C r l t : Addr) (ns : List Int) : Th := ⟨[r, l], Shp C r l t ns, fun H H' k h => by
  obtain ⟨⟨dx, h1⟩, h2⟩ := h
  exact ⟨⟨dx, k _ (.head _) _ h1⟩, k _ (.tail _ (.head _)) _ h2⟩, fun H h a ha => by
  obtain ⟨⟨dx, h1⟩, h2⟩ := h
  rcases List.mem_cons.mp ha with rfl | ha
  · exact ⟨_, h1, trivial⟩
  · rw [List.mem_singleton.mp ha]
    exact ⟨_, h2, trivial⟩⟩
instance (C r l t : Addr) (ns : List Int) : NT (tSh C r l t ns) := ⟨fun H h a ha o e => by
  obtain ⟨⟨dx, h1⟩, h2⟩ := h
  rcases List.mem_cons.mp ha with rfl | ha
  · rw [h1] at e
    cases e
    trivial
  · rw [List.mem_singleton.mp ha, h2] at e
    cases e
    trivial⟩
theorem Shp.ne {C r l t : Addr} {ns : List Int} {H : Hp} (h : Shp C r l t ns H) : l ≠ r := fun z => by
  obtain ⟨⟨dx, h1⟩, h2⟩ := h
  rw [z, h1] at h2
  cases h2
def spShI (K : PySem.W.Frag) (C cT : Addr) : Sp := fun vs H Q E => ∃ (r dx a : Addr) (k : Bool) (ns : List Int), vs = [.ref r, .ref a] ∧ H r = some (.ins C dx []) ∧ SqK K k H a (ns.map V.int) ∧ ns.length ≤ 10000 ∧
  (okSh ns → ∀ (H' : Hp) (t l : Addr), MvF [r] H H' → H l = none → Shp C r l t z4 H' → SqT K H' t ((trimS ns).map V.int) → Q .non H') ∧
  (¬ okSh ns → ∀ H' d, Same H H' → H d = none → H' d = some (.xd [(("word" : Str), .str "BadTaps")]) → E (.ref cT) (some d) H')
def toneOf (ws ns : List Int) (v : Int) : Int := fold (v - dotL ws ns)
def spSay (K : PySem.W.Frag) (C cN : Addr) : Sp := fun vs H Q E => ∃ (r l t : Addr) (ns ws : List Int) (v : Int), vs = [.ref r, .int v] ∧ Shp C r l t ns H ∧ SqT K H t (ws.map V.int) ∧ (∀ x ∈ ws, small x) ∧ ws.length ≤ 1000 ∧
  (fold v = v → ∀ (H' : Hp) (l' : Addr), MvF [r] H H' → H l' = none → Shp C r l' t (toneOf ws ns v :: ns.take 3) H' → Q (.int (toneOf ws ns v)) H') ∧
  (fold v ≠ v → ∀ H' d, Same H H' → H d = none → H' d = some (.xd [(("word" : Str), .str "BadCount")]) → E (.ref cN) (some d) H')
def spPast (C : Addr) : Sp := fun vs H Q _ => ∃ (r l t : Addr) (ns : List Int), vs = [.ref r] ∧ Shp C r l t ns H ∧ ∀ l', H l' = none → Q (.ref l') (upd H l' (.lst (ns.map V.int)))
def spTwinSh (K : PySem.W.Frag) (C : Addr) : Sp := fun vs H Q _ => ∃ (r l t : Addr) (ns ws : List Int), vs = [.ref r] ∧ Shp C r l t ns H ∧ SqT K H t (ws.map V.int) ∧ ws.length ≤ 10000 ∧ okSh ws ∧ ∀ (H' : Hp) (r' l' t' : Addr), Same H H' → H r' = none → H l' = none → Shp C r' l' t' ns H' → SqT K H' t' ((trimS ws).map V.int) → Q (.ref r') H'
theorem sc_Shaper___init__ : FnScope ["self", "shares"] ["self", "shares"] (defScope m_Shaper___init__) := ⟨rfl, rfl, rfl, by decide +kernel, rfl, by decide +kernel, by decide +kernel⟩
theorem ok_Shaper___init__ {f C cT : Addr} {fd : FuncData} {k : Nat} {ds : List V} (F : FunD K "__init__" "Shaper.__init__" (defArgs m_Shaper___init__) (defBody m_Shaper___init__) (defScope m_Shaper___init__) ds [] f fd) (R : ShC K C) (c_right_shares : CalX P w K mg base k "right_shares" ["numbers"] (spRS K cT)) (c_no_tones : Cal P w K mg base k "no_tones" [] spNT) :
    FnOk P w K mg base (L2.CX P w) (k + 1) f fd ["self", "shares"] (spShI K C cT) := by
  have sc := sc_Shaper___init__
  refine F.ok sc (fun vs H Q E h => ?_) (fun cdv A outer s H vs Q E hr h => ?_)
  · obtain ⟨r, dx, a, kk, ns, rfl, _⟩ := h
    rfl
  · obtain ⟨r, dx, a, kk, ns, rfl, hr_, hS, hlen, q, qe⟩ := h
    refine ⟨_, (pss_cons (ps_fldK K rfl (pv 0) (pe_callP c_right_shares hr (passes_call (takes_of rfl rfl rfl rfl) (fun _ _ _ _ h => h)) (by rfl) (pa_cons (pv 1) pa_nil)))
 (pss_one (ps_fldK K rfl (pv 0) (pe_callC0 c_no_tones hr (by rfl))))), ?_⟩
    refine ⟨_, rfl, a, kk, ns, rfl, hS, hlen, (fun hok H1 t s1 ht => ?_), qe⟩
    refine ⟨_, rfl, r, C, dx, _, rfl, s1 _ _ hr_, R.cls, R.nt, (by show 0 < 1000; decide), ?_⟩
    have m1 : MvF [r] H (upd H1 r (.ins C dx [(("taps" : Str), .ref t)])) := (MvF.of s1).upd (.head _)
    have e1 : upd H1 r (.ins C dx [(("taps" : Str), .ref t)]) r = some (.ins C dx [(("taps" : Str), .ref t)]) := upd_same
    have ht1 : SqT K (upd H1 r (.ins C dx [(("taps" : Str), .ref t)])) t ((trimS ns).map V.int) := sqT_updI (s1 _ _ hr_) ht
    have ep : putF "taps" (.ref t) ([] : List (Str × V)) = [(("taps" : Str), .ref t)] := rfl
    rw [ep]
    generalize upd H1 r (.ins C dx [(("taps" : Str), .ref t)]) = H2 at m1 e1 ht1 ⊢
    refine ⟨rfl, fun H3 l s3 nl el => ?_⟩
    refine ⟨_, rfl, r, C, dx, _, rfl, s3 _ _ e1, R.cls, R.nn, (by show 1 < 1000; decide), ?_⟩
    have ep2 : putF "tones" (.ref l) [(("taps" : Str), V.ref t)] = shF t l := rfl
    rw [ep2]
    have nlr : l ≠ r := (ne_of_none e1 nl).symm
    refine q hok _ t l ((m1.same s3).upd (.head _)) (m1.free nl) ⟨⟨dx, upd_same⟩, ?_⟩ ?_
    · rw [upd_ne nlr]
      exact el
    · exact sqT_updI (s3 _ _ e1) (same_t s3 ht1)
theorem sc_Shaper_say : FnScope ["self", "value", "tone"] ["self", "value"] (defScope m_Shaper_say) := ⟨rfl, rfl, rfl, by decide +kernel, rfl, by decide +kernel, by decide +kernel⟩
theorem ok_Shaper_say {f C cN : Addr} {fd : FuncData} {k : Nat} (F : Fun K "say" "Shaper.say" m_Shaper_say f fd) (R : ShC K C) (x_BadCount : XcOk P w K mg base k "BadCount" cN (spIni0 K cN "BadCount")) (c_folded : Cal P w K mg base (k + 1) "folded" ["number"] spFolded) (c_left_behind : Cal P w K mg base (k + 1) "left_behind" ["shares", "tones"] (spLB K)) (c_with_latest : Cal P w K mg base (k + 1) "with_latest" ["tone", "tones"] (spWL K)) :
    FnOk P w K mg base (L2.CX P w) (k + 2) f fd ["self", "value"] (spSay K C cN) := by
  have sc := sc_Shaper_say
  refine F.okX sc (fun vs H Q E h => ?_) (fun cdv A outer s H vs Q E hr h => ?_)
  · obtain ⟨r, l, t, ns, ws, v, rfl, _⟩ := h
    rfl
  · obtain ⟨r, l, t, ns, ws, v, rfl, ⟨⟨dx, hins⟩, hmem⟩, ht, hsm, hwl, q, qe⟩ := h
    refine ⟨_, (pss_cons (ps_if (pt_cmpR op_ne (pe_callC c_folded hr (by rfl) (pa_cons (pv 1) pa_nil)) (pv 1) (nomark _))
  (pss_one (ps_raise rfl (takes_of rfl rfl rfl rfl) (pmk_c0 x_BadCount hr (by rfl))))
  pss_nil)
 (pss_cons (ps_set (i := 2) sc.nd rfl (.inl rfl) (pe_callC c_folded hr (by rfl) (pa_cons (pe_op op_sub (pv 1) (pe_callC c_left_behind hr (by rfl) (pa_cons (pe_fldK K rfl (pv 0)) (pa_cons (pe_fldK K rfl (pv 0)) pa_nil)))) pa_nil)))
 (pss_cons (ps_fldK K rfl (pv 0) (pe_callC c_with_latest hr (by rfl) (pa_cons (pv 2) (pa_cons (pe_fldK K rfl (pv 0)) pa_nil))))
 (pss_one (ps_ret (pv 2)))))), ?_⟩
    refine ⟨_, rfl, v, rfl, _, rfl, rfl, _, rfl, ite2 (fun e => ?_) (fun e => ?_)⟩
    · exact mk_inner0 (fun H3 d s3 nd ed => qe (ne_t e) H3 d s3 nd ed)
    · have e : fold v = v := ne_f e
      refine ⟨_, rfl, _, rfl, r, C, dx, _, _, rfl, hins, R.cls, R.nt, rfl, _, rfl, r, C, dx, _, _, rfl, hins, R.cls, R.nn, rfl, t, l, ws, ns, rfl, ht, SqL.of hmem, hsm, hwl, fun H1 s1 => ⟨_, _, rfl, rfl, _, rfl, ?_⟩⟩
      refine name_by ?_
      dsimp only
      have i1 := s1 _ _ hins
      refine ⟨_, rfl, _, rfl, r, C, dx, _, _, rfl, i1, R.cls, R.nn, rfl, _, l, ns, rfl, SqL.of (s1 _ _ hmem), fun H2 l' s2 nl' el' => ?_⟩
      refine ⟨_, rfl, r, C, dx, _, rfl, s2 _ _ i1, R.cls, R.nn, (by show 2 < 1000; decide), ?_⟩
      have ep : putF "tones" (.ref l') (shF t l) = shF t l' := rfl
      rw [ep]
      have nlr : l' ≠ r := (ne_of_none i1 nl').symm
      refine ⟨_, rfl, q e _ l' ((MvF.of (s1.trans s2)).upd (.head _)) (s1.free nl') ⟨⟨dx, upd_same⟩, ?_⟩⟩
      rw [upd_ne nlr]
      exact el'
/-! ### methods of parts, as changes of things -/
instance (C r l : Addr) (c : List Int) : NT (tSc C r l c) := ⟨fun H h a ha o e => by
  obtain ⟨⟨dx, h1⟩, h2, _⟩ : Scr C r l c H := h
  rcases List.mem_cons.mp ha with rfl | ha
  · rw [h1] at e
    cases e
    trivial
  · rw [List.mem_singleton.mp ha, h2] at e
    cases e
    trivial⟩
theorem up_mv {T T' : Th} [NT T] {F : List Addr} {H H' : Hp} (h : T.P H) (m : MvF F H H') (hF : ∀ a ∈ F, a ∈ T.ft) (hp : T'.P H') (hf : ∀ a ∈ T'.ft, a ∈ T.ft ∨ H a = none) : Up T [T'] H H' :=
  ⟨m.wide hF, nt_of h (m.wide hF), Hs.nil0.cons hp (fun j y hj => by cases hj), fun x hx a ha => by
    rw [List.mem_singleton.mp hx] at ha
    exact hf a ha⟩
theorem up_mvN {T T' N : Th} [NT T] {F : List Addr} {H H' : Hp} (h : T.P H) (m : MvF F H H') (hF : ∀ a ∈ F, a ∈ T.ft) (hp : T'.P H') (hf : ∀ a ∈ T'.ft, a ∈ T.ft ∨ H a = none) (hn : N.P H') (hnf : ∀ a ∈ N.ft, H a = none ∧ a ∉ T'.ft) : Up T [N, T'] H H' :=
  ⟨m.wide hF, nt_of h (m.wide hF), (Hs.nil0.cons hp (fun j y hj => by cases hj)).cons hn (fun j y hj a ha hb => by
    cases j with
    | zero =>
      cases Option.some.inj hj
      exact (hnf a ha).2 hb
    | succ j => cases hj), fun x hx a ha => by
    rcases List.mem_cons.mp hx with rfl | hx
    · exact .inr (hnf a ha).1
    · rw [List.mem_singleton.mp hx] at ha
      exact hf a ha⟩
theorem in2u {a r b : Addr} (h : a ∈ [r, b]) : a = r ∨ a = b := by simpa using h
theorem sh_say {C r l l' t : Addr} {ns ms : List Int} {H H' : Hp} (h : Shp C r l t ns H) (m : MvF [r] H H') (nl : H l' = none) (h' : Shp C r l' t ms H') : Up (tSh C r l t ns) [tSh C r l' t ms] H H' :=
  up_mv (T := tSh C r l t ns) (T' := tSh C r l' t ms) h m (fun a ha => by rw [in1 ha]; exact .head _) h' (fun a ha => by
    rcases in2u ha with rfl | rfl
    · exact .inl (.head _)
    · exact .inr nl)
theorem sc_push {C r l l' o : Addr} {c c' : List Int} {out : List L2.V} {H H' : Hp} (h : Scr C r l c H) (m : MvF [r] H H') (no : H o = none) (eo : H' o = some (.lst out)) (hl' : l' = l ∨ H l' = none) (h' : Scr C r l' c' H') (nol : o ≠ l') : Up (tSc C r l c) [tL o out, tSc C r l' c'] H H' :=
  up_mvN (T := tSc C r l c) (T' := tSc C r l' c') (N := tL o out) h m (fun a ha => by rw [in1 ha]; exact .head _) h' (fun a ha => by
    rcases in2u ha with rfl | rfl
    · exact .inl (.head _)
    · rcases hl' with rfl | z
      · exact .inl (.tail _ (.head _))
      · exact .inr z) ⟨eo, trivial⟩ (fun a ha => by
    rw [in1 ha]
    refine ⟨no, fun z => ?_⟩
    rcases in2u z with rfl | z
    · obtain ⟨⟨dx, h1⟩, _⟩ := h
      rw [h1] at no
      cases no
    · exact nol z)
/-- an own thing that was not there -/
theorem up_newTh {N : Th} {H H' : Hp} (s : Same H H') (hn : N.P H') (hf : ∀ a ∈ N.ft, H a = none) : Up (tG []) [N] H H' :=
  ⟨.of s, fun a u e _ => s a u e, Hs.nil0.cons hn (fun j y hj => by cases hj), fun x hx a ha => by
    rw [List.mem_singleton.mp hx] at ha
    exact .inr (hf a ha)⟩
/-- what a maker made -/
theorem up_made {C x dx : Addr} {Us : List Th} {H H' : Hp} (nx : H x = none) (ndx : H dx = none) (u : Up (tG [tO x (.ins C dx [])]) Us (upd (upd H dx (.own x)) x (.ins C dx [])) H') : Up (tG []) Us H H' := by
  have m : MvF [x] (upd (upd H dx (.own x)) x (.ins C dx [])) H' := u.mv
  have s := made_same nx ndx m
  refine ⟨.of s, fun a o e _ => s a o e, u.hs, fun y hy a ha => ?_⟩
  rcases u.ow y hy a ha with z | z
  · have z : a ∈ [x] := z
    exact .inr (by rw [in1 z]; exact nx)
  · exact .inr (made_none z)
theorem Rn.newTh {K : PySem.W.Frag} {L : List (Addr × List L2.V)} {Ts : List Th} {N : Th} {H0 H H' : Hp} {F : List Addr} (h : Rn K H0 F L Ts H) (s : Same H H') (hn : N.P H') (hf : ∀ a ∈ N.ft, H a = none) : Rn K H0 F L (N :: Ts) H' := h.upN (up_newTh s hn hf)
theorem Rn.mvs {K : PySem.W.Frag} {L : List (Addr × List L2.V)} {Ts : List Th} {H0 H H' : Hp} {F : List Addr} (h : Rn K H0 F L Ts H) (s : Same H H') : MvF F H0 H' := h.mv.same s
/-! ### wires as objects -/
structure WrC (K : PySem.W.Frag) (C : Addr) : Prop where
  cls : Cls K C
  nf : NoAttr K C "four"
  n1 : NoAttr K C "one_tones"
  n2 : NoAttr K C "other_tones"
abbrev wrF (f p q : Addr) : List (Str × V) := [(("four" : Str), .ref f), (("one_tones" : Str), .ref p), (("other_tones" : Str), .ref q)]
structure Wr (C r f p q : Addr) (ns ms : List Int) (H : Hp) : Prop where
  ins : ∃ dx, H r = some (.ins C dx (wrF f p q))
  one : H p = some (.lst (ns.map V.int))
  oth : H q = some (.lst (ms.map V.int))
  ne : p ≠ q
def tWr (C r f p q : Addr) (ns ms : List Int) : Th := ⟨[r, p, q], Wr C r f p q ns ms, fun H H' k h => by
  obtain ⟨⟨dx, h1⟩, h2, h3, h4⟩ := h
  exact ⟨⟨dx, k _ (.head _) _ h1⟩, k _ (.tail _ (.head _)) _ h2, k _ (.tail _ (.tail _ (.head _))) _ h3, h4⟩, fun H h a ha => by
  obtain ⟨⟨dx, h1⟩, h2, h3, h4⟩ := h
  rcases List.mem_cons.mp ha with rfl | ha
  · exact ⟨_, h1, trivial⟩
  rcases List.mem_cons.mp ha with rfl | ha
  · exact ⟨_, h2, trivial⟩
  · rw [List.mem_singleton.mp ha]
    exact ⟨_, h3, trivial⟩⟩
instance (C r f p q : Addr) (ns ms : List Int) : NT (tWr C r f p q ns ms) := ⟨fun H h a ha o e => by
  obtain ⟨⟨dx, h1⟩, h2, h3, h4⟩ := h
  rcases List.mem_cons.mp ha with rfl | ha
  · rw [h1] at e
    cases e
    trivial
  rcases List.mem_cons.mp ha with rfl | ha
  · rw [h2] at e
    cases e
    trivial
  · rw [List.mem_singleton.mp ha, h3] at e
    cases e
    trivial⟩
/-- the four shares of a wire -/
structure W4 where
  forth : List Int
  back : List Int
  near : List Int
  far : List Int
def W4.Sm (W : W4) : Prop := (∀ x ∈ W.forth, small x) ∧ (∀ x ∈ W.back, small x) ∧ (∀ x ∈ W.near, small x) ∧ (∀ x ∈ W.far, small x) ∧ W.forth.length ≤ 4 ∧ W.back.length ≤ 4 ∧ W.near.length ≤ 4 ∧ W.far.length ≤ 4
def FourAt (K : PySem.W.Frag) (f : Addr) (W : W4) (H : Hp) : Prop := ∃ t0 t1 t2 t3 : Addr, SqT K H f [.ref t0, .ref t1, .ref t2, .ref t3] ∧ SqT K H t0 (W.forth.map V.int) ∧ SqT K H t1 (W.back.map V.int) ∧ SqT K H t2 (W.near.map V.int) ∧ SqT K H t3 (W.far.map V.int)
theorem FourAt.keep {f : Addr} {W : W4} {H H' : Hp} (k : ∀ t xs, SqT K H t xs → SqT K H' t xs) (h : FourAt K f W H) : FourAt K f W H' := by
  obtain ⟨t0, t1, t2, t3, h, h0, h1, h2, h3⟩ := h
  exact ⟨t0, t1, t2, t3, k _ _ h, k _ _ h0, k _ _ h1, k _ _ h2, k _ _ h3⟩

def ok4 (a0 a1 a2 a3 : List Int) : Prop := okSh a0 ∧ okSh a1 ∧ okSh a2 ∧ okSh a3
def spWi (K : PySem.W.Frag) (C cT : Addr) : Sp := fun vs H Q E => ∃ (r dx a0 a1 a2 a3 : Addr) (k0 k1 k2 k3 : Bool) (n0 n1 n2 n3 : List Int), vs = [.ref r, .ref a0, .ref a1, .ref a2, .ref a3] ∧ H r = some (.ins C dx []) ∧
  SqK K k0 H a0 (n0.map V.int) ∧ SqK K k1 H a1 (n1.map V.int) ∧ SqK K k2 H a2 (n2.map V.int) ∧ SqK K k3 H a3 (n3.map V.int) ∧ n0.length ≤ 10000 ∧ n1.length ≤ 10000 ∧ n2.length ≤ 10000 ∧ n3.length ≤ 10000 ∧
  (ok4 n0 n1 n2 n3 → ∀ (H' : Hp) (f p q : Addr), MvF [r] H H' → H p = none → H q = none → Wr C r f p q z4 z4 H' → FourAt K f ⟨trimS n0, trimS n1, trimS n2, trimS n3⟩ H' → Q .non H') ∧
  (¬ ok4 n0 n1 n2 n3 → ∀ H' d, Same H H' → H d = none → H' d = some (.xd [(("word" : Str), .str "BadTaps")]) → E (.ref cT) (some d) H')
/-- what one hears, what the other -/
def atOne (W : W4) (ns ms : List Int) (a b n : Int) : Int := b + dotL W.back ms + dotL W.near (a :: ns.take 3) + n
def atOther (W : W4) (ns ms : List Int) (a b n : Int) : Int := a + dotL W.forth ns + dotL W.far (b :: ms.take 3) + n
def spBeat (K : PySem.W.Frag) (C : Addr) : Sp := fun vs H Q _ => ∃ (r f p q z : Addr) (kz : Bool) (ns ms : List Int) (W : W4) (a b n0 n1 : Int), vs = [.ref r, .int a, .int b, .ref z] ∧ Wr C r f p q ns ms H ∧ FourAt K f W H ∧ W.Sm ∧ SqK K kz H z [.int n0, .int n1] ∧
  ∀ (H' : Hp) (t p' q' : Addr), MvF [r] H H' → H t = none → H p' = none → H q' = none → Wr C r f p' q' (a :: ns.take 3) (b :: ms.take 3) H' → H' t = some (.tup [.int (atOne W ns ms a b n0), .int (atOther W ns ms a b n1)]) → Q (.ref t) H'
def spHush (C : Addr) : Sp := fun vs H Q _ => ∃ (r f p q : Addr) (ns ms : List Int), vs = [.ref r] ∧ Wr C r f p q ns ms H ∧ ∀ (H' : Hp) (p' q' : Addr), MvF [r] H H' → H p' = none → H q' = none → Wr C r f p' q' z4 z4 H' → Q .non H'
def spWTwin (K : PySem.W.Frag) (C : Addr) : Sp := fun vs H Q _ => ∃ (r f p q : Addr) (ns ms : List Int) (W : W4), vs = [.ref r] ∧ Wr C r f p q ns ms H ∧ FourAt K f W H ∧ ok4 W.forth W.back W.near W.far ∧ W.forth.length ≤ 10000 ∧ W.back.length ≤ 10000 ∧ W.near.length ≤ 10000 ∧ W.far.length ≤ 10000 ∧
  ∀ (H' : Hp) (r' f' p' q' : Addr), Same H H' → H r' = none → H p' = none → H q' = none → Wr C r' f' p' q' ns ms H' → FourAt K f' ⟨trimS W.forth, trimS W.back, trimS W.near, trimS W.far⟩ H' → Q (.ref r') H'
def spWShares (C : Addr) : Sp := fun vs H Q _ => ∃ (r f p q : Addr) (ns ms : List Int), vs = [.ref r] ∧ Wr C r f p q ns ms H ∧ Q (.ref f) H
theorem sc_Wire___init__ : FnScope ["self", "forth", "back", "near", "far"] ["self", "forth", "back", "near", "far"] (defScope m_Wire___init__) := ⟨rfl, rfl, rfl, by decide +kernel, rfl, by decide +kernel, by decide +kernel⟩
theorem ok_Wire___init__ {f C cT : Addr} {fd : FuncData} {k : Nat} {kws : List (Str × V)} (F : FunD K "__init__" "Wire.__init__" (defArgs m_Wire___init__) (defBody m_Wire___init__) (defScope m_Wire___init__) [] kws f fd) (R : WrC K C) (c_right_shares : CalX P w K mg base k "right_shares" ["numbers"] (spRS K cT)) (c_no_tones : Cal P w K mg base k "no_tones" [] spNT) :
    FnOk P w K mg base (L2.CX P w) (k + 1) f fd ["self", "forth", "back", "near", "far"] (spWi K C cT) := by
  have sc := sc_Wire___init__
  refine F.ok sc (fun vs H Q E h => ?_) (fun cdv A outer s H vs Q E hr h => ?_)
  · obtain ⟨r, dx, a0, a1, a2, a3, k0, k1, k2, k3, n0, n1, n2, n3, rfl, _⟩ := h
    rfl
  · obtain ⟨r, dx, a0, a1, a2, a3, k0, k1, k2, k3, n0, n1, n2, n3, rfl, hr_, hS0, hS1, hS2, hS3, hl0, hl1, hl2, hl3, q, qe⟩ := h
    refine ⟨_, (pss_cons (ps_fldK K rfl (pv 0) (pe_tup (pa_cons (pe_callP c_right_shares hr (passes_call (takes_of rfl rfl rfl rfl) (fun _ _ _ _ h => h)) (by rfl) (pa_cons (pv 1) pa_nil)) (pa_cons (pe_callP c_right_shares hr (passes_call (takes_of rfl rfl rfl rfl) (fun _ _ _ _ h => h)) (by rfl) (pa_cons (pv 2) pa_nil)) (pa_cons (pe_callP c_right_shares hr (passes_call (takes_of rfl rfl rfl rfl) (fun _ _ _ _ h => h)) (by rfl) (pa_cons (pv 3) pa_nil)) (pa_cons (pe_callP c_right_shares hr (passes_call (takes_of rfl rfl rfl rfl) (fun _ _ _ _ h => h)) (by rfl) (pa_cons (pv 4) pa_nil)) pa_nil))))))
 (pss_cons (ps_fldK K rfl (pv 0) (pe_callC0 c_no_tones hr (by rfl)))
 (pss_one (ps_fldK K rfl (pv 0) (pe_callC0 c_no_tones hr (by rfl)))))), ?_⟩
    refine ⟨_, rfl, a0, k0, n0, rfl, hS0, hl0, (fun ok0 H1 t0 s1 ht0 => ?_), (fun no H1 d s1 nd ed => qe (fun h => no h.1) H1 d s1 nd ed)⟩
    refine ⟨_, rfl, a1, k1, n1, rfl, hS1.same s1, hl1, (fun ok1 H2 t1 s2 ht1 => ?_), (fun no H2 d s2 nd ed => qe (fun h => no h.2.1) H2 d (s1.trans s2) (s1.free nd) ed)⟩
    have s12 := s1.trans s2
    refine ⟨_, rfl, a2, k2, n2, rfl, hS2.same s12, hl2, (fun ok2 H3 t2 s3 ht2 => ?_), (fun no H3 d s3 nd ed => qe (fun h => no h.2.2.1) H3 d (s12.trans s3) (s12.free nd) ed)⟩
    have s13 := s12.trans s3
    refine ⟨_, rfl, a3, k3, n3, rfl, hS3.same s13, hl3, (fun ok3 H4 t3 s4 ht3 => ?_), (fun no H4 d s4 nd ed => qe (fun h => no h.2.2.2) H4 d (s13.trans s4) (s13.free nd) ed)⟩
    have s14 := s13.trans s4
    refine ⟨(by show 4 ≤ sizeLine; decide), fun f5 n5 => ?_⟩
    have s45 := same_upd (o := .tup [.ref t0, .ref t1, .ref t2, .ref t3]) n5
    have s15 := s14.trans s45
    have hF : FourAt K f5 ⟨trimS n0, trimS n1, trimS n2, trimS n3⟩ (upd H4 f5 (.tup [.ref t0, .ref t1, .ref t2, .ref t3])) :=
      ⟨t0, t1, t2, t3, SqT.of upd_same, same_t (((s2.trans s3).trans s4).trans s45) ht0, same_t ((s3.trans s4).trans s45) ht1, same_t (s4.trans s45) ht2, same_t s45 ht3⟩
    generalize upd H4 f5 (.tup [.ref t0, .ref t1, .ref t2, .ref t3]) = H5 at s15 hF ⊢
    have e5 := s15 _ _ hr_
    refine ⟨_, rfl, r, C, dx, _, rfl, e5, R.cls, R.nf, (by show 0 < 1000; decide), ?_⟩
    have ep : putF "four" (.ref f5) ([] : List (Str × V)) = [(("four" : Str), .ref f5)] := rfl
    rw [ep]
    have m6 : MvF [r] H (upd H5 r (.ins C dx [(("four" : Str), .ref f5)])) := (MvF.of s15).upd (.head _)
    have e6 : upd H5 r (.ins C dx [(("four" : Str), .ref f5)]) r = some (.ins C dx [(("four" : Str), .ref f5)]) := upd_same
    have hF6 : FourAt K f5 ⟨trimS n0, trimS n1, trimS n2, trimS n3⟩ (upd H5 r (.ins C dx [(("four" : Str), .ref f5)])) := hF.keep (fun t xs h => sqT_updI e5 h)
    generalize upd H5 r (.ins C dx [(("four" : Str), .ref f5)]) = H6 at m6 e6 hF6 ⊢
    clear hF e5 s15
    refine ⟨rfl, fun H7 p s7 np ep7 => ?_⟩
    refine ⟨_, rfl, r, C, dx, _, rfl, s7 _ _ e6, R.cls, R.n1, (by show 1 < 1000; decide), ?_⟩
    have ep2 : putF "one_tones" (.ref p) [(("four" : Str), V.ref f5)] = [(("four" : Str), .ref f5), (("one_tones" : Str), .ref p)] := rfl
    rw [ep2]
    have pr : p ≠ r := (ne_of_none e6 np).symm
    have m8 : MvF [r] H (upd H7 r (.ins C dx [(("four" : Str), .ref f5), (("one_tones" : Str), .ref p)])) := (m6.same s7).upd (.head _)
    have e8 : upd H7 r (.ins C dx [(("four" : Str), .ref f5), (("one_tones" : Str), .ref p)]) r = some (.ins C dx [(("four" : Str), .ref f5), (("one_tones" : Str), .ref p)]) := upd_same
    have hF8 : FourAt K f5 ⟨trimS n0, trimS n1, trimS n2, trimS n3⟩ (upd H7 r (.ins C dx [(("four" : Str), .ref f5), (("one_tones" : Str), .ref p)])) := (hF6.keep (fun t xs h => same_t s7 h)).keep (fun t xs h => sqT_updI (s7 _ _ e6) h)
    have ep8 : upd H7 r (.ins C dx [(("four" : Str), .ref f5), (("one_tones" : Str), .ref p)]) p = some (.lst (z4.map V.int)) := by rw [upd_ne pr]; exact ep7
    have np' : H p = none := m6.free np
    generalize upd H7 r (.ins C dx [(("four" : Str), .ref f5), (("one_tones" : Str), .ref p)]) = H8 at m8 e8 hF8 ep8 ⊢
    clear hF6 m6
    refine ⟨rfl, fun H9 q9 s9 nq eq9 => ?_⟩
    refine ⟨_, rfl, r, C, dx, _, rfl, s9 _ _ e8, R.cls, R.n2, (by show 2 < 1000; decide), ?_⟩
    have ep3 : putF "other_tones" (.ref q9) [(("four" : Str), V.ref f5), (("one_tones" : Str), .ref p)] = wrF f5 p q9 := rfl
    rw [ep3]
    have qr : q9 ≠ r := (ne_of_none e8 nq).symm
    have pq : p ≠ q9 := ne_of_none ep8 nq
    refine q ⟨ok0, ok1, ok2, ok3⟩ _ f5 p q9 ((m8.same s9).upd (.head _)) np' (m8.free nq) ⟨⟨dx, upd_same⟩, ?_, ?_, pq⟩ ((hF8.keep (fun t xs h => same_t s9 h)).keep (fun t xs h => sqT_updI (s9 _ _ e8) h))
    · rw [upd_ne pr]
      exact s9 _ _ ep8
    · rw [upd_ne qr]
      exact eq9
theorem sc_Wire_shares : FnScope ["self"] ["self"] (defScope m_Wire_shares) := ⟨rfl, rfl, rfl, by decide +kernel, rfl, by decide +kernel, by decide +kernel⟩
theorem ok_Wire_shares {f C : Addr} {fd : FuncData} {k : Nat} (F : Fun K "shares" "Wire.shares" m_Wire_shares f fd) (R : WrC K C) : FnOk P w K mg base CX0 (k + 1) f fd ["self"] (spWShares C) := by
  have sc := sc_Wire_shares
  refine F.ok sc (fun vs H Q E h => ?_) (fun cdv A outer s H vs Q E hr h => ?_)
  · obtain ⟨r, f, p, q, ns, ms, rfl, _⟩ := h
    rfl
  · obtain ⟨r, f, p, q, ns, ms, rfl, ⟨⟨dx, hins⟩, _⟩, qq⟩ := h
    refine ⟨_, (pss_one (ps_ret (pe_fldK K rfl (pv 0)))), ?_⟩
    exact ⟨_, rfl, r, C, dx, _, _, rfl, hins, R.cls, R.nf, rfl, qq⟩
theorem codeB_pts {r : Nat} (ok : okR (r : Int)) : ∀ (bs : List Bt) (s : Int), GoodBs r bs → ∀ c ∈ codeB s bs, 0 ≤ c ∧ c < ptsI (r : Int)
  | [], _, _, c, hc => nomatch hc
  | b :: bs, s, hg, c, hc => by
    rcases List.mem_cons.mp hc with rfl | hc
    · exact beat_num ok (hg b (.head _))
    · exact codeB_pts ok bs _ (fun x hx => hg x (.tail _ hx)) c hc
theorem codeL_pts {r : Nat} {ns : List Int} (ok : okR (r : Int)) (hB : Bits ns) : ∀ c ∈ codeL r ns, 0 ≤ c ∧ c < ptsI (r : Int) := by
  obtain ⟨r1, _⟩ := id ok
  refine codeB_pts ok _ 0 ?_
  unfold rowB
  exact good_app (bts_good (by omega) hB) tl2_good
theorem codeL_leP {r : Nat} {ns : List Int} (hr : 0 < r) (h : ns.length % r = 0) : (codeL r ns).length ≤ ns.length + 2 := by
  have hl : ns.length = r * (ns.length / r) := by
    have := Nat.div_add_mod ns.length r
    omega
  have := Nat.div_le_self ns.length r
  unfold codeL
  rw [codeB_len, rowB_of hr hl, List.length_append, bts_len]
  show ns.length / r + 2 ≤ _
  omega
theorem fold_pointI {c r : Int} (ok : okR r) (h0 : 0 ≤ c) (h1 : c < ptsI r) : fold (pointI c r) = pointI c r := by
  unfold fold pointI
  rcases pts_step ok with ⟨rfl, e, e2⟩ | ⟨rfl, e, e2⟩ | ⟨rfl, e, e2⟩ | ⟨rfl, e, e2⟩ <;> rw [e] at h1 <;> rw [e2] <;> omega
theorem rep1 (d : Int) : ∀ m : Nat, (List.replicate m [V.int d]).flatten = (List.replicate m d).map V.int
  | 0 => rfl
  | m + 1 => by
    rw [List.replicate_succ, List.flatten_cons, rep1 d m, List.replicate_succ]
    rfl
theorem sc_moved : FnScope ["state", "first"] ["state", "first"] (defScope s_moved) := ⟨rfl, rfl, rfl, by decide +kernel, rfl, by decide +kernel, by decide +kernel⟩
def spMovedS : Sp := fun vs H Q _ => ∃ (s f : Int), vs = [.int s, .int f] ∧ Q (.int (mvS s f)) H
theorem ok_moved {f : Addr} {fd : FuncData} {k : Nat} (F : Fun K "moved" "moved" s_moved f fd) : FnOk P w K mg base CX0 (k + 1) f fd ["state", "first"] spMovedS := by
  have sc := sc_moved
  refine F.ok sc (fun vs H Q E h => ?_) (fun cdv A outer s H vs Q E hr h => ?_)
  · obtain ⟨s, b, rfl, _⟩ := h
    rfl
  · obtain ⟨s, b, rfl, q⟩ := h
    refine ⟨_, (pss_one (ps_ret (pe_op op_add (pe_op op_mul pe_int (pe_op op_mod (pv 0) pe_int)) (pv 1)))), ?_⟩
    exact ⟨_, rfl, _, _, rfl, rfl, (by show (0 : Int) < 2; decide), _, _, rfl, rfl, .inl ⟨by decide, by decide⟩, _, rfl, _, _, rfl, rfl, q⟩
theorem sc_class_of : FnScope ["state", "first"] ["state", "first"] (defScope s_class_of) := ⟨rfl, rfl, rfl, by decide +kernel, rfl, by decide +kernel, by decide +kernel⟩
def spClass : Sp := fun vs H Q _ => ∃ (s f : Int), vs = [.int s, .int f] ∧ St4 s ∧ isB f ∧ Q (.int (clS s f)) H
theorem ok_class_of {f : Addr} {fd : FuncData} {k : Nat} (F : Fun K "class_of" "class_of" s_class_of f fd) : FnOk P w K mg base CX0 (k + 1) f fd ["state", "first"] spClass := by
  have sc := sc_class_of
  refine F.ok sc (fun vs H Q E h => ?_) (fun cdv A outer s H vs Q E hr h => ?_)
  · obtain ⟨s, b, rfl, _⟩ := h
    rfl
  · obtain ⟨s, b, rfl, hs, hb, q⟩ := h
    refine ⟨_, (pss_one (ps_ret (pe_op op_xor (pv 0) (pe_op op_mul pe_int (pv 1))))), ?_⟩
    refine ⟨_, rfl, _, rfl, _, _, rfl, rfl, .inl ⟨by decide, by decide⟩, _, _, rfl, rfl, ?_⟩
    show Q (.int (Builtin.bitXor s (2 * b))) H
    rw [cl_xor hs hb]
    exact q
theorem sc_coded : FnScope ["bits", "rate", "row", "numbers", "state", "at", "first"] ["bits", "rate"] (defScope s_coded) := ⟨rfl, rfl, rfl, by decide +kernel, rfl, by decide +kernel, by decide +kernel⟩
def RefAt (C : Addr) (nm : Str) (i : Nat) (H : Hp) (E : XK) : Prop := ∀ (H' : Hp) (d : Addr), Same H H' → H d = none → H' d = some (.xd [(("at" : Str), .int (i : Int)), (("word" : Str), .str nm)]) → E (.ref C) (some d) H'
def spCoded (K : PySem.W.Frag) (cB cN cR : Addr) : Sp := fun vs H Q E => ∃ (a : Addr) (ns : List Int) (r : Int), vs = [.ref a, .int r] ∧ SqL K H a (ns.map V.int) ∧ ns.length ≤ 2000 ∧
  (okR r → Bits ns → ns.length % r.toNat = 0 → ∀ (H' : Hp) (p : Addr), Same H H' → H p = none → H' p = some (.lst ((codeL r.toNat ns).map V.int)) → Q (.ref p) H') ∧
  (okR r → Bits ns → ns.length % r.toNat ≠ 0 → Ref0 cN "BadCount" H E) ∧
  (okR r → ∀ (i : Nat) (z : Int), ns[i]? = some z → ¬ isB z → Bits (ns.take i) → RefAt cB "BadBit" i H E) ∧ (¬ okR r → Ref0 cR "BadRate" H E)
theorem ok_coded {f cB cN cR : Addr} {fd : FuncData} {k : Nat} {kws : List (Str × V)} {tT : Tok} (F : FunD K "coded" "coded" (defArgs s_coded) (defBody s_coded) (defScope s_coded) [] kws f fd) (n_len : mg "len" = none) (n_list : mg "list" = none) (n_range : mg "range" = none) (g_TAIL : mg "TAIL" = some (.int 2 tT))
    (x_BadCount : XcOk P w K mg base k "BadCount" cN (spIni0 K cN "BadCount")) (c_check_rate : CalX P w K mg base (k + 1) "check_rate" ["rate"] (spCR cR)) (c_check_bits : CalX P w K mg base (k + 1) "check_bits" ["bits"] (spCheckX K cB)) (c_bits_number : CalX P w K mg base (k + 1) "bits_number" ["bits"] (spBnX K cB cN))
    (c_class_of : Cal P w K mg base (k + 1) "class_of" ["state", "first"] spClass) (c_moved : Cal P w K mg base (k + 1) "moved" ["state", "first"] spMovedS) : FnOk P w K mg base (L2.CX P w) (k + 2) f fd ["bits", "rate"] (spCoded K cB cN cR) := by
  have sc := sc_coded
  refine F.ok sc (fun vs H Q E h => ?_) (fun cdv A outer s H vs Q E hr h => ?_)
  · obtain ⟨a, ns, r, rfl, _⟩ := h
    rfl
  · obtain ⟨a, ns, r, rfl, hS, hl, q, qn, qb, qr⟩ := h
    refine ⟨_, (pss_cons (ps_expr (pe_callP c_check_rate hr (passes_call (takes_of rfl rfl rfl rfl) (fun _ _ _ _ h => h)) (by rfl) (pa_cons (pv 1) pa_nil)))
 (pss_cons (ps_expr (pe_callP c_check_bits hr (passes_call (takes_of rfl rfl rfl rfl) (fun _ _ _ _ h => h)) (by rfl) (pa_cons (pv 0) pa_nil)))
 (pss_cons (ps_if (pt_cmpR op_ne (pe_op op_mod (pe_callB (call_lenK K rfl) (by rfl) n_len PySem.boot_len (pa_cons (pv 0) pa_nil)) (pv 1)) pe_int (nomark _))
  (pss_one (ps_raise rfl (takes_of rfl rfl rfl rfl) (pmk_c0 x_BadCount hr (by rfl))))
  pss_nil)
 (pss_cons (ps_set (i := 2) sc.nd rfl (.inl rfl) (pe_op op_cat (pe_callTy (call_listK K rfl) (by rfl) n_list (by decide +kernel) (pa_cons (pv 0) pa_nil)) (pe_op op_rep (pe_lst (pa_cons pe_int pa_nil)) (pe_op op_mul (pe_glob (v := .int 2) (by rfl) g_TAIL ⟨_, rfl⟩) (pv 1)))))
 (pss_cons (ps_set (i := 3) sc.nd rfl (.inl rfl) (pe_lst pa_nil))
 (pss_cons (ps_set (i := 4) sc.nd rfl (.inl rfl) pe_int)
 (pss_cons (ps_for (passes_of rfl) rfl (pi_range3 (by rfl) n_range (pa_cons pe_int (pa_cons (pe_callB (call_lenK K rfl) (by rfl) n_len PySem.boot_len (pa_cons (pv 2) pa_nil)) (pa_cons (pv 1) pa_nil)))) (pg_name (i := 5) sc.nd rfl (.inl rfl))
  (pss_cons (ps_set (i := 6) sc.nd rfl (.inl rfl) (pe_ix (ix_listK K rfl) (pv 2) (pv 5) (fun _ _ => rfl)))
 (pss_cons (ps_expr (pe_bmK K rfl PySem.F.plainAttrs_list PySem.F.slot_list_append PySem.F.type_list_append mt_append (pv 3) (pa_cons (pe_op op_add (pe_op op_mul pe_int (pe_callP c_bits_number hr (passes_call (takes_of rfl rfl rfl rfl) (fun _ _ _ _ h => h)) (by rfl) (pa_cons (pe_slice (sl_listK K rfl) (pv 2) (po_some (pe_op op_add (pv 5) pe_int)) (po_some (pe_op op_add (pv 5) (pv 1)))) pa_nil))) (pe_callC c_class_of hr (by rfl) (pa_cons (pv 4) (pa_cons (pv 6) pa_nil)))) pa_nil)))
 (pss_one (ps_set (i := 4) sc.nd rfl (.inl rfl) (pe_callC c_moved hr (by rfl) (pa_cons (pv 4) (pa_cons (pv 6) pa_nil))))))))
 (pss_one (ps_ret (pv 3)))))))))), ?_⟩
    refine ⟨_, rfl, r, rfl, (fun ok => ?_), qr⟩
    obtain ⟨r1, r4⟩ := id ok
    obtain ⟨rn, rfl⟩ : ∃ rn : Nat, r = (rn : Int) := ⟨r.toNat, by omega⟩
    rw [Int.toNat_natCast] at q qn
    refine ⟨_, rfl, a, ns, rfl, hS, by omega, fun hB H1 s1 => ?_, fun i z hz nb hbi => qb ok i z hz nb hbi⟩
    have em : ((ns.map V.int).length : Int) % (rn : Int) = ((ns.length % rn : Nat) : Int) := by rw [List.length_map, Int.natCast_emod]
    refine ⟨_, rfl, a, _, rfl, .inl (s1.seq hS), _, rfl, _, _, rfl, rfl, (by show (0 : Int) < (rn : Int); omega), rfl, _, rfl, ite2 (fun e => ?_) (fun e => ?_)⟩
    · have ne : ns.length % rn ≠ 0 := fun z => by
        have e : (!decide (V.int (((ns.map V.int).length : Int) % (rn : Int)) = V.int 0)) = true := e
        rw [em, z] at e
        exact absurd e (by decide)
      exact mk_inner0 (fun H3 d s3 nd ed => qn ok hB ne H3 d (s1.trans s3) (s1.free nd) ed)
    have z0 : ns.length % rn = 0 := by
      have e : ¬ (!decide (V.int (((ns.map V.int).length : Int) % (rn : Int)) = V.int 0)) = true := e
      rw [em] at e
      by_cases z : ns.length % rn = 0
      · exact z
      · exfalso
        refine e ?_
        rw [decide_eq_false (fun y => z (by have := V.int.inj y; omega))]
        rfl
    have hlen : ns.length = rn * (ns.length / rn) := by
      have := Nat.div_add_mod ns.length rn
      omega
    generalize hN : ns.length / rn = N at hlen
    -- row
    refine ⟨_, rfl, a, _, rfl, .inl (s1.seq hS), fun p2 n2 => ?_⟩
    have s2 := s1.trans (same_upd (o := .lst (ns.map V.int)) n2)
    refine ⟨(by show 1 ≤ sizeLine; decide), fun p3 n3 => ?_⟩
    have s3 := s2.trans (same_upd (o := .lst [.int 0]) n3)
    refine ⟨_, rfl, _, _, rfl, rfl, .inl ⟨by decide, by decide⟩, ?_⟩
    refine ⟨p3, _, _, rfl, rfl, upd_same, by omega, by omega, (sz4 (by show 1 * (2 * (rn : Int)).toNat ≤ 100000; omega)), fun p4 n4 => ?_⟩
    have er : (2 * (rn : Int)).toNat = 2 * rn := by omega
    rw [er, show (List.replicate (2 * rn) [V.int 0]).flatten = (List.replicate (2 * rn) (0 : Int)).map V.int from rep1 0 _]
    have s4 := s3.trans (same_upd (o := .lst ((List.replicate (2 * rn) (0 : Int)).map V.int)) n4)
    have e2 : upd (upd (upd H1 p2 (.lst (ns.map V.int))) p3 (.lst [.int 0])) p4 (.lst ((List.replicate (2 * rn) (0 : Int)).map V.int)) p2 = some (.lst (ns.map V.int)) := same_upd n4 _ _ (same_upd n3 _ _ upd_same)
    have e4 : upd (upd (upd H1 p2 (.lst (ns.map V.int))) p3 (.lst [.int 0])) p4 (.lst ((List.replicate (2 * rn) (0 : Int)).map V.int)) p4 = some (.lst ((List.replicate (2 * rn) (0 : Int)).map V.int)) := upd_same
    generalize upd (upd (upd H1 p2 (.lst (ns.map V.int))) p3 (.lst [.int 0])) p4 (.lst ((List.replicate (2 * rn) (0 : Int)).map V.int)) = H4 at s4 e2 e4 ⊢
    refine ⟨p2, p4, _, _, rfl, rfl, e2, e4, (by rw [List.length_map, List.length_map, List.length_replicate]; exact sz4 (by omega)), fun pr n5 => ?_⟩
    rw [← List.map_append]
    have s5 := s4.trans (same_upd (o := .lst ((ns ++ List.replicate (2 * rn) 0).map V.int)) n5)
    have npr : H pr = none := s4.free n5
    have hrb : Bits (ns ++ List.replicate (2 * rn) 0) := bits_app hB (fun z hz => .inl (List.eq_of_mem_replicate hz))
    have hrl : (ns ++ List.replicate (2 * rn) 0).length = rn * (N + 2) := by rw [List.length_append, List.length_replicate, hlen, Nat.mul_add]; omega
    have hbt := bts_tail (r := rn) (by omega) hlen (2 * rn)
    generalize ns ++ List.replicate (2 * rn) 0 = row at *
    have er5 : upd H4 pr (.lst (row.map V.int)) pr = some (.lst (row.map V.int)) := upd_same
    generalize upd H4 pr (.lst (row.map V.int)) = H5 at s5 er5 ⊢
    refine name_by ?_
    dsimp only
    refine ⟨Nat.zero_le _, fun po no => ?_⟩
    have no0 : H po = none := s5.free no
    have s6 := s5.trans (same_upd (o := .lst []) no)
    have nrl : rn * (N + 2) ≤ 2100 := by rw [Nat.mul_add, ← hlen]; omega
    refine ⟨_, rfl, pr, _, rfl, .inl (SqL.of (same_upd no _ _ er5)), _, rfl, 0, _, (rn : Int), N + 2, rfl, ?_, ?_⟩
    · have hm : ((row.map V.int).length : Int) = ((N + 2 : Nat) : Int) * (rn : Int) := by rw [List.length_map, hrl, Int.natCast_mul, Int.mul_comm]
      rw [hm]
      exact rgc_pos ok (by rw [← Int.natCast_mul, Nat.mul_comm]; omega)
    refine for_rangeC (lo := 0) (c := (rn : Int)) (n := N + 2) (fun i σ H' => ∃ (y5 y6 : Option V), σ = [some (.ref a), some (.int (rn : Int)), some (.ref pr), some (.ref po), some (.int (stB 0 ((bts rn (N + 2) row).take i))), y5, y6] ∧ Same H H' ∧ H' pr = some (.lst (row.map V.int)) ∧ H' po = some (.lst ((codeB 0 ((bts rn (N + 2) row).take i)).map V.int)))
      ⟨none, none, rfl, s6, same_upd no _ _ er5, upd_same⟩ ?_ ?_
    · rintro i σ H7 hi ⟨y5, y6, rfl, s7, er7, eo7⟩
      have hbi := bts_at (r := rn) (row := row) hi
      have hst : St4 (stB 0 ((bts rn (N + 2) row).take i)) := stB_st st4_0 (fun b hb => bts_bits hrb b (List.mem_of_mem_take hb))
      have hix := idx_le hi hrl
      have hfb := bt_bit (r := rn) hrb i
      have hcl : (codeB 0 ((bts rn (N + 2) row).take i)).length ≤ 3000 := by
        rw [codeB_len, List.length_take, bts_len]
        have : N + 2 ≤ rn * (N + 2) := Nat.le_mul_of_pos_left _ (by omega)
        omega
      rw [stB_more hbi, codeB_more hbi]
      generalize stB 0 ((bts rn (N + 2) row).take i) = st at hst ⊢
      generalize codeB 0 ((bts rn (N + 2) row).take i) = co at eo7 hcl ⊢
      have ei : (0 : Int) + (i : Int) * (rn : Int) = ((i * rn : Nat) : Int) := by rw [Int.zero_add, Int.natCast_mul]
      rw [ei]
      have g0 : (row.map V.int)[i * rn]? = some (.int (bt rn row i).1) := by
        show _ = some (V.int (row.getD (i * rn) 0))
        rw [List.getElem?_map, List.getD_eq_getElem?_getD, List.getElem?_eq_getElem (by omega)]
        rfl
      refine ⟨_, rfl, _, rfl, pr, _, _, _, rfl, rfl, SqL.of er7, atI_nat g0, ?_⟩
      refine ⟨_, rfl, .inl ⟨rfl, _, SqL.of eo7⟩, _, rfl, _, rfl, _, _, rfl, rfl, _, rfl, _, rfl, _, rfl, _, _, rfl, rfl, _, rfl, pr, _, rfl, SqL.of er7, fun p8 n8 => ?_⟩
      have ec : cutV (row.map V.int) (some (((i * rn : Nat) : Int) + 1)) (some (((i * rn : Nat) : Int) + (rn : Int))) = ((row.drop (i * rn + 1)).take (rn - 1)).map V.int := by
        have h1 : ((i * rn : Nat) : Int) + 1 = ((i * rn + 1 : Nat) : Int) := rfl
        have h2 : ((i * rn : Nat) : Int) + (rn : Int) = ((i * rn + rn : Nat) : Int) := rfl
        rw [h1, h2, cut_mid _ _ _ (by omega), show i * rn + rn - (i * rn + 1) = rn - 1 by omega, List.map_take, List.map_drop]
      rw [ec]
      have s8 := same_upd (o := .lst (((row.drop (i * rn + 1)).take (rn - 1)).map V.int)) n8
      have hcb : Bits ((row.drop (i * rn + 1)).take (rn - 1)) := bits_take (bits_drop hrb _) _
      refine ⟨p8, _, rfl, SqL.of upd_same, (by rw [List.length_take]; omega), (fun _ _ H9 s9 => ?_), (fun _ z => absurd z (by rw [List.length_take]; omega)), (fun i' z hz nb => (nb (hcb z (List.mem_of_getElem? hz))).elim)⟩
      have s89 := s8.trans s9
      refine ⟨_, _, rfl, rfl, .inl ⟨by decide, by decide⟩, _, rfl, _, rfl, _, _, rfl, hst, hfb, _, _, rfl, rfl, po, _, _, rfl, rfl, s89 _ _ eo7, ?_, ?_⟩
      · rw [List.length_map]
        exact sz4l (by omega)
      refine ⟨_, rfl, _, rfl, _, _, rfl, ?_⟩
      refine ⟨_, _, rfl, same_mut (s7.trans s89) no0, ?_, ?_⟩
      · rw [upd_ne (fun z => by rw [z, eo7] at er7; exact absurd no0 (by intro _; exact ne_of_none er5 no z))]
        exact s89 _ _ er7
      · rw [upd_same, List.map_append]
        rfl
    · rintro σ H7 ⟨y5, y6, rfl, s7, er7, eo7⟩
      rw [List.take_of_length_le (by rw [bts_len]; exact Nat.le_refl _), hbt, ← rowB_of (by omega) hlen] at eo7
      exact ⟨_, rfl, q ok hB z0 H7 po s7 no0 eo7⟩
theorem sc_apart : FnScope ["one", "other"] ["one", "other"] (defScope s_apart) := ⟨rfl, rfl, rfl, by decide +kernel, rfl, by decide +kernel, by decide +kernel⟩
theorem ok_apart {f : Addr} {fd : FuncData} {k : Nat} (F : Fun K "apart" "apart" s_apart f fd) (n_abs : mg "abs" = none) (c_folded : Cal P w K mg base k "folded" ["number"] spFolded) : FnOk P w K mg base CX0 (k + 1) f fd ["one", "other"] spApart := by
  have sc := sc_apart
  refine F.ok sc (fun vs H Q E h => ?_) (fun cdv A outer s H vs Q E hr h => ?_)
  · obtain ⟨a, b, rfl, _⟩ := h
    rfl
  · obtain ⟨a, b, rfl, q⟩ := h
    refine ⟨_, (pss_one (ps_ret (pe_callB call_abs (by rfl) n_abs (by decide +kernel) (pa_cons (pe_callC c_folded hr (by rfl) (pa_cons (pe_op op_sub (pv 0) (pv 1)) pa_nil)) pa_nil)))), ?_⟩
    exact ⟨_, rfl, _, rfl, _, _, rfl, rfl, _, rfl, _, rfl, q⟩
theorem sc_nearest_of_class : FnScope ["number", "low", "rate", "between", "beyond", "last", "past", "following"] ["number", "low", "rate"] (defScope s_nearest_of_class) := ⟨rfl, rfl, rfl, by decide +kernel, rfl, by decide +kernel, by decide +kernel⟩
def spNC : Sp := fun vs H Q _ => ∃ (x low r : Int), vs = [.int x, .int low, .int r] ∧ okR r ∧ St4 low ∧ ∀ (H' : Hp) (p : Addr), Same H H' → H p = none → H' p = some (.tup ((ncl x low r).map V.int)) → Q (.ref p) H'
theorem ok_nearest_of_class {f cN cR : Addr} {fd : FuncData} {k : Nat} {tR : Tok} (F : Fun K "nearest_of_class" "nearest_of_class" s_nearest_of_class f fd) (n_min : mg "min" = none) (g_RING : mg "RING" = some (.int 256 tR)) (c_step : CalX P w K mg base k "step" ["rate"] (spStep cR))
    (cw_point_1_rate : CalW P w K mg base k "point" ["number", "rate"] 1 ["rate"] (fun vs zs => vs ++ zs) (spPoint cN cR)) : FnOk P w K mg base CX0 (k + 1) f fd ["number", "low", "rate"] spNC := by
  have sc := sc_nearest_of_class
  refine F.ok sc (fun vs H Q E h => ?_) (fun cdv A outer s H vs Q E hr h => ?_)
  · obtain ⟨x, low, r, rfl, _⟩ := h
    rfl
  · obtain ⟨x, low, r, rfl, ok, hlow, q⟩ := h
    refine ⟨_, (pss_cons (ps_set (i := 3) sc.nd rfl (.inl rfl) (pe_op op_mul pe_int (pe_callF c_step hr (by rfl) (pa_cons (pv 2) pa_nil))))
 (pss_cons (ps_set (i := 4) sc.nd rfl (.inl rfl) (pe_op op_mod (pe_op op_sub (pv 0) (pe_callWF cw_point_1_rate hr (by rfl) (pa_cons (pv 1) pa_nil) (pk_cons (pv 2) pk_nil))) (pe_glob (v := .int 256) (by rfl) g_RING ⟨_, rfl⟩)))
 (pss_cons (ps_set (i := 5) sc.nd rfl (.inl rfl) (pe_op op_fdiv (pv 4) (pv 3)))
 (pss_cons (ps_set (i := 6) sc.nd rfl (.inl rfl) (pe_op op_mod (pv 4) (pv 3)))
 (pss_cons (ps_set (i := 7) sc.nd rfl (.inl rfl) (pe_op op_mod (pe_op op_add (pv 5) pe_int) (pe_op op_fdiv (pe_glob (v := .int 256) (by rfl) g_RING ⟨_, rfl⟩) (pv 3))))
 (pss_one (ps_ret (pe_callB (cr_minTK K rfl hr.units rfl) (by rfl) n_min (by decide +kernel) (pa_cons (pe_lst (pa_cons (pe_tup (pa_cons (pe_op op_pow (pv 6) pe_int) (pa_cons (pv 5) pa_nil))) (pa_cons (pe_tup (pa_cons (pe_op op_pow (pe_op op_sub (pv 3) (pv 6)) pe_int) (pa_cons (pv 7) pa_nil))) pa_nil))) pa_nil))))))))), ?_⟩
    have hst : stepI r = 64 ∨ stepI r = 32 ∨ stepI r = 16 ∨ stepI r = 8 := by
      rcases pts_step ok with ⟨_, _, e⟩ | ⟨_, _, e⟩ | ⟨_, _, e⟩ | ⟨_, _, e⟩ <;> rw [e] <;> decide
    have hpt : 4 ≤ ptsI r := by rcases pts_step ok with ⟨_, e, _⟩ | ⟨_, e, _⟩ | ⟨_, e, _⟩ | ⟨_, e, _⟩ <;> rw [e] <;> decide
    refine ⟨_, rfl, r, rfl, (fun _ => ?_), (fun no => absurd ok no)⟩
    refine ⟨_, _, rfl, rfl, .inl ⟨by decide, by decide⟩, ?_⟩
    refine ⟨_, rfl, _, rfl, _, rfl, rfl, rfl, low, r, rfl, (fun _ _ _ => ?_), (fun _ bad => by obtain ⟨h1, h2⟩ := hlow; rcases bad with z | z <;> omega), (fun no => absurd ok no)⟩
    refine ⟨_, _, rfl, rfl, _, _, rfl, rfl, (by show (0 : Int) < 256; decide), ?_⟩
    refine ⟨_, rfl, _, rfl, _, _, rfl, rfl, ⟨by show (0 : Int) < 4 * stepI r; rcases hst with e | e | e | e <;> rw [e] <;> decide, by show 4 * stepI r < 1073741824; rcases hst with e | e | e | e <;> rw [e] <;> decide⟩, ?_⟩
    refine ⟨_, rfl, _, rfl, _, _, rfl, rfl, (by show (0 : Int) < 4 * stepI r; rcases hst with e | e | e | e <;> rw [e] <;> decide), ?_⟩
    refine ⟨_, rfl, _, _, rfl, rfl, _, rfl, _, _, rfl, rfl, ⟨by show (0 : Int) < 4 * stepI r; rcases hst with e | e | e | e <;> rw [e] <;> decide, by show 4 * stepI r < 1073741824; rcases hst with e | e | e | e <;> rw [e] <;> decide⟩, _, _, rfl, rfl, (by show (0 : Int) < 256 / (4 * stepI r); rcases hst with e | e | e | e <;> rw [e] <;> decide), ?_⟩
    have hb : ∀ y : Int, (y % 256 % (4 * stepI r)).natAbs < 2 ^ 64 ∧ (4 * stepI r - y % 256 % (4 * stepI r)).natAbs < 2 ^ 64 := fun y => by
      rcases hst with e | e | e | e <;> rw [e] <;> omega
    refine ⟨_, rfl, _, _, rfl, rfl, ⟨by decide, by decide, (hb (x - pointI low r)).1⟩, _, rfl, (by show 2 ≤ sizeLine; decide), fun p1 n1 => ?_⟩
    refine ⟨_, rfl, _, rfl, _, _, rfl, rfl, _, _, rfl, rfl, ⟨by decide, by decide, (hb (x - pointI low r)).2⟩, _, rfl, (by show 2 ≤ sizeLine; decide), fun p2 n2 => ?_⟩
    refine ⟨(by show 2 ≤ sizeLine; decide), fun p3 n3 => ?_⟩
    have t1 := [((x - pointI low r) % 256 % (4 * stepI r)) ^ 2, (x - pointI low r) % 256 / (4 * stepI r)]
    have s1 : Same H (upd H p1 (.tup (([((x - pointI low r) % 256 % (4 * stepI r)) ^ 2, (x - pointI low r) % 256 / (4 * stepI r)] : List Int).map V.int))) := same_upd n1
    have s2 := s1.trans (same_upd (o := .tup (([(4 * stepI r - (x - pointI low r) % 256 % (4 * stepI r)) ^ 2, ((x - pointI low r) % 256 / (4 * stepI r) + 1) % (256 / (4 * stepI r))] : List Int).map V.int)) n2)
    have s3 := s2.trans (same_upd (o := .lst [.ref p1, .ref p2]) n3)
    have e1 := same_upd (o := .lst [.ref p1, .ref p2]) n3 _ _ (same_upd (o := .tup (([(4 * stepI r - (x - pointI low r) % 256 % (4 * stepI r)) ^ 2, ((x - pointI low r) % 256 / (4 * stepI r) + 1) % (256 / (4 * stepI r))] : List Int).map V.int)) n2 _ _ (upd_same (H := H) (a := p1) (o := .tup (([((x - pointI low r) % 256 % (4 * stepI r)) ^ 2, (x - pointI low r) % 256 / (4 * stepI r)] : List Int).map V.int))))
    have e2 := same_upd (o := .lst [.ref p1, .ref p2]) n3 _ _ (upd_same (H := upd H p1 (.tup (([((x - pointI low r) % 256 % (4 * stepI r)) ^ 2, (x - pointI low r) % 256 / (4 * stepI r)] : List Int).map V.int))) (a := p2) (o := .tup (([(4 * stepI r - (x - pointI low r) % 256 % (4 * stepI r)) ^ 2, ((x - pointI low r) % 256 / (4 * stepI r) + 1) % (256 / (4 * stepI r))] : List Int).map V.int)))
    refine ⟨p3, [.ref p1, .ref p2], [((x - pointI low r) % 256 % (4 * stepI r)) ^ 2, (x - pointI low r) % 256 / (4 * stepI r)], [[(4 * stepI r - (x - pointI low r) % 256 % (4 * stepI r)) ^ 2, ((x - pointI low r) % 256 / (4 * stepI r) + 1) % (256 / (4 * stepI r))]], rfl, SqL.of upd_same, .cons (dp_tup (SqT.of e1)) (.cons (dp_tup (SqT.of e2)) .nil), fun i p hi hm hsq => ?_⟩
    match i, hi, hm with
    | 0, hi, hm =>
      cases hi
      refine q _ p1 s3 n1 ?_
      have hm : _ = ncl x low r := Option.some.inj hm
      rw [← hm]
      exact e1
    | 1, hi, hm =>
      cases hi
      refine q _ p2 s3 (s1.free n2) ?_
      have hm : _ = ncl x low r := Option.some.inj hm
      rw [← hm]
      exact e2
theorem sc_onward : FnScope ["state", "first", "classes", "costs", "square", "rest"] ["state", "first", "classes", "costs"] (defScope s_onward) := ⟨rfl, rfl, rfl, by decide +kernel, rfl, by decide +kernel, by decide +kernel⟩
def spOn (K : PySem.W.Frag) : Sp := fun vs H Q _ => ∃ (s f : Int) (pc pk : Addr) (ts : List (List Int)) (cs : List Int) (sq m : Int), vs = [.int s, .int f, .ref pc, .ref pk] ∧ St4 s ∧ isB f ∧ BeatAt H pc ts ∧ SqL K H pk (cs.map V.int) ∧ cs.length = 4 ∧ ts[(clS s f).toNat]? = some [sq, m] ∧
  ∀ (H' : Hp) (p : Addr), Same H H' → H p = none → H' p = some (.tup (([sq + cs.getD (mvS s f).toNat 0, f, m] : List Int).map V.int)) → Q (.ref p) H'
theorem at_st {cs : List Int} {s : Int} (hl : cs.length = 4) (h : St4 s) : atI (cs.map V.int) s = some (.int (cs.getD s.toNat 0)) := by
  obtain ⟨n, rfl, hn⟩ := st4_nat h
  refine atI_nat ?_
  rw [List.getElem?_map, Int.toNat_natCast, List.getD_eq_getElem?_getD, List.getElem?_eq_getElem (by omega)]
  rfl
theorem ok_onward {f : Addr} {fd : FuncData} {k : Nat} (F : Fun K "onward" "onward" s_onward f fd) (c_class_of : Cal P w K mg base k "class_of" ["state", "first"] spClass) (c_moved : Cal P w K mg base k "moved" ["state", "first"] spMovedS) : FnOk P w K mg base CX0 (k + 1) f fd ["state", "first", "classes", "costs"] (spOn K) := by
  have sc := sc_onward
  refine F.ok sc (fun vs H Q E h => ?_) (fun cdv A outer s H vs Q E hr h => ?_)
  · obtain ⟨s, b, pc, pk, ts, cs, sq, m, rfl, _⟩ := h
    rfl
  · obtain ⟨s, b, pc, pk, ts, cs, sq, m, rfl, hs, hb, ⟨ps, epc, htup⟩, hk, hl, ht, q⟩ := h
    refine ⟨_, (pss_cons (ps_asg (pe_ix (ix_listK K rfl) (pv 2) (pe_callC c_class_of hr (by rfl) (pa_cons (pv 0) (pa_cons (pv 1) pa_nil))) (fun _ _ => rfl)) (pg_tup rfl (pgs_cons (pg_name (i := 4) sc.nd rfl (.inl rfl)) (pgs_cons (pg_name (i := 5) sc.nd rfl (.inl rfl)) pgs_nil))))
 (pss_one (ps_ret (pe_tup (pa_cons (pe_op op_add (pv 4) (pe_ix (ix_listK K rfl) (pv 3) (pe_callC c_moved hr (by rfl) (pa_cons (pv 0) (pa_cons (pv 1) pa_nil))) (fun _ _ => rfl))) (pa_cons (pv 1) (pa_cons (pv 5) pa_nil))))))), ?_⟩
    obtain ⟨p, hp, ep⟩ := TupsAt.at htup ht
    have hc4 := cl_st s b
    have hat : atI (ps.map V.ref) (clS s b) = some (.ref p) := by
      have h1 : (ps.map V.ref)[(clS s b).toNat]? = some (.ref p) := by rw [List.getElem?_map, hp]; rfl
      have := atI_nat h1
      rwa [Int.toNat_of_nonneg hc4.1] at this
    refine ⟨_, rfl, _, rfl, _, rfl, s, b, rfl, hs, hb, pc, _, _, _, rfl, rfl, SqL.of epc, hat, ?_⟩
    refine ⟨p, _, rfl, SqT.of ep, rfl, _, _, rfl, _, _, rfl, rfl, ?_⟩
    refine ⟨_, rfl, _, rfl, _, rfl, _, rfl, _, _, rfl, pk, _, _, _, rfl, rfl, hk, at_st hl (mv_st hb), _, _, rfl, rfl, _, rfl, _, rfl, (by show 3 ≤ sizeLine; decide), fun p2 n2 => ?_⟩
    exact q _ p2 (same_upd n2) n2 upd_same
theorem sc_best_of_beat : FnScope ["number", "costs", "rate", "classes", "low", "state", "first"] ["number", "costs", "rate"] (defScope s_best_of_beat) := ⟨rfl, rfl, rfl, by decide +kernel, rfl, by decide +kernel, by decide +kernel⟩
abbrev nscope_best_of_beat : Scope := { kind := .function, names := [(".0", .local), ("state", .cell), ("min", .globalImplicit), ("classes", .cell), ("costs", .cell)], isGenerator := false, isCoroutine := false }
def spBB (K : PySem.W.Frag) : Sp := fun vs H Q _ => ∃ (x r : Int) (pk : Addr) (cs : List Int), vs = [.int x, .ref pk, .int r] ∧ okR r ∧ SqL K H pk (cs.map V.int) ∧ cs.length = 4 ∧ ∀ (H' : Hp) (q : Addr), Same H H' → H q = none → BeatAt H' q (bestR x cs r) → Q (.ref q) H'
theorem ok_best_of_beat {f : Addr} {fd : FuncData} {k : Nat} {tS : Tok} (F : Fun K "best_of_beat" "best_of_beat" s_best_of_beat f fd) (n_min : mg "min" = none) (n_range : mg "range" = none) (g_STATES : mg "STATES" = some (.int 4 tS)) (c_nearest_of_class : Cal P w K mg base k "nearest_of_class" ["number", "low", "rate"] spNC) (c_onward : Cal P w K mg base k "onward" ["state", "first", "classes", "costs"] (spOn K)) : FnOk P w K mg base CX0 (k + 1) f fd ["number", "costs", "rate"] (spBB K) := by
  have sc := sc_best_of_beat
  refine F.ok sc (fun vs H Q E h => ?_) (fun cdv A outer s H vs Q E hr h => ?_)
  · obtain ⟨x, r, pk, cs, rfl, _⟩ := h
    rfl
  · obtain ⟨x, r, pk, cs, rfl, ok, hk, hl, q⟩ := h
    refine ⟨_, (pss_cons (ps_set (i := 3) sc.nd rfl (.inr rfl) (pe_lc (own := [("low", 4)]) (g := gName 4) (by rfl) sc.nd (pi_range1 (by rfl) n_range (pa_cons (pe_glob (v := .int 4) (by rfl) g_STATES ⟨_, rfl⟩) pa_nil)) (blkOk_by (own := [("low", 4)]) (N := ["number", "costs", "rate", "classes", "low", "state", "first"]) (sc := defScope s_best_of_beat) (by decide +kernel)) (fun _ _ _ _ _ => (pg_name (i := 4) sc.nd rfl (Or.inl rfl))) (fun _ _ _ _ _ => pts_nil) (fun _ _ _ _ _ => (pe_callC c_nearest_of_class hr (by rfl) (pa_cons (pv 0) (pa_cons (pv 4) (pa_cons (pv 2) pa_nil)))))))
 (pss_one (ps_ret (pe_lc (own := [("state", 5)]) (g := gName 5) (by rfl) sc.nd (pi_range1 (by rfl) n_range (pa_cons (pe_glob (v := .int 4) (by rfl) g_STATES ⟨_, rfl⟩) pa_nil)) (blkOk_by (own := [("state", 5)]) (N := ["number", "costs", "rate", "classes", "low", "state", "first"]) (sc := defScope s_best_of_beat) (by decide +kernel)) (fun _ _ _ _ _ => (pg_name (i := 5) sc.nd rfl (Or.inr rfl))) (fun _ _ _ _ _ => pts_nil) (fun _ _ _ _ _ => (pe_callB (cr_minTK K rfl hr.units rfl) (by rfl) n_min (by decide +kernel) (pa_cons (pe_lc (own := [("first", 6)]) (g := gName 6) (by rfl) sc.nd (pi_tupK K rfl (pe_tup (pa_cons pe_int (pa_cons pe_int pa_nil)))) (blkOk_by (own := [("first", 6)]) (N := ["number", "costs", "rate", "classes", "low", "state", "first"]) (sc := nscope_best_of_beat) (by decide +kernel)) (fun _ _ _ _ _ => (pg_name (i := 6) sc.nd rfl (Or.inl rfl))) (fun _ _ _ _ _ => pts_nil) (fun _ _ _ _ _ => (pe_callC c_onward hr (by rfl) (pa_cons (pv 5) (pa_cons (pv 6) (pa_cons (pv 3) (pa_cons (pv 1) pa_nil))))))) pa_nil))))))), ?_⟩
    -- classes
    refine ⟨4, rfl, by decide, by decide, fun D nD => lc_range (lo := 0) (n := 4) (fun i H' => Same H H' ∧ BeatAt H' D ((List.range i).map fun l => ncl x (l : Nat) r)) ⟨same_upd nD, ⟨[], upd_same, trivial⟩⟩ ?_ ?_⟩
    · rintro i H1 hi ⟨s1, ps, eD, htup⟩
      refine ⟨rfl, tYes_by (iteT ?_)⟩
      have hi : i < 4 := hi
      refine ⟨_, rfl, _, rfl, _, rfl, x, _, r, rfl, ok, ⟨by omega, by omega⟩, fun H2 p s2 np ep => ?_⟩
      rw [Int.zero_add] at ep
      refine ⟨_, s2 _ _ eD, ?_, same_mut (s1.trans s2) nD, ps ++ [p], ?_, ?_⟩
      · rw [List.length_map, TupsAt.len htup, List.length_map, List.length_range]
        exact sz4l (by omega)
      · rw [upd_same, List.map_append]
        rfl
      · rw [List.range_succ, List.map_append]
        exact tups_mut (s2 _ _ eD) (TupsAt.snoc ep (TupsAt.loc (fun a zs e => s2 a _ e) htup))
    · rintro H1 ⟨s1, hcl⟩
      refine name_by ?_
      dsimp only
      -- states
      refine ⟨4, rfl, by decide, by decide, fun E2 nE => lc_range (lo := 0) (n := 4) (fun i H' => Same H H' ∧ BeatAt H' D ((List.range 4).map fun l => ncl x (l : Nat) r) ∧ E2 ≠ D ∧ BeatAt H' E2 ((List.range i).map fun s => bestT x cs r (s : Nat)))
        ⟨s1.trans (same_upd nE), hcl.same (same_upd nE), (fun z => by obtain ⟨ps, e, _⟩ := hcl; rw [← z, nE] at e; cases e), [], upd_same, trivial⟩ ?_ ?_⟩
      · rintro i H2 hi ⟨s2, hcl2, hne, ps, eE, htup⟩
        have hi : i < 4 := hi
        refine ⟨rfl, tYes_by (iteT ?_)⟩
        refine ⟨(by show 2 ≤ sizeLine; decide), fun p3 n3 => ?_⟩
        have s3 := same_upd (o := .tup [.int 0, .int 1]) n3
        refine ⟨p3, rfl, ⟨_, SqT.of upd_same⟩, fun G nG => ?_⟩
        have st : St4 ((i : Nat) : Int) := ⟨by omega, by omega⟩
        have hway : ∀ fb : Int, isB fb → ((List.range 4).map fun l => ncl x (l : Nat) r)[(clS ((i : Nat) : Int) fb).toNat]? = some [(ncl x (clS ((i : Nat) : Int) fb) r).getD 0 0, (ncl x (clS ((i : Nat) : Int) fb) r).getD 1 0] := fun fb hb => by
          obtain ⟨c4, ec, hc4⟩ := st4_nat (cl_st ((i : Nat) : Int) fb)
          rw [ec, Int.toNat_natCast, List.getElem?_map, List.getElem?_range hc4]
          obtain ⟨c, m, e⟩ := ncl_two x (c4 : Int) r
          show some (ncl x (c4 : Int) r) = _
          rw [e]
          rfl
        refine lc_tup (K := K) (a := p3) (xs := [.int 0, .int 1]) (fun j H' => Same (upd H2 p3 (.tup [.int 0, .int 1])) H' ∧ BeatAt H' G (([way x cs r (i : Nat) 0, way x cs r (i : Nat) 1] : List (List Int)).take j)) ⟨same_upd nG, [], upd_same, trivial⟩ (fun j H' _ h => SqT.of (h.1 _ _ upd_same)) ?_ ?_
        · rintro j y H4 hy ⟨s4, qs, eG, ht4⟩
          have hj : j < 2 := by have := (List.getElem?_eq_some_iff.mp hy).1; exact this
          obtain ⟨fb, rfl, hfb, hw⟩ : ∃ fb : Int, y = .int fb ∧ isB fb ∧ ([way x cs r (i : Nat) 0, way x cs r (i : Nat) 1] : List (List Int))[j]? = some (way x cs r (i : Nat) fb) := by
            match j, hj, hy with
            | 0, _, hy => cases hy; exact ⟨0, rfl, .inl rfl, rfl⟩
            | 1, _, hy => cases hy; exact ⟨1, rfl, .inr rfl, rfl⟩
          refine ⟨rfl, tYes_by (iteT ?_)⟩
          have s24 := s3.trans s4
          refine ⟨_, rfl, _, rfl, _, rfl, _, rfl, _, fb, D, pk, _, cs, _, _, rfl, (by rw [Int.zero_add]; exact st), hfb, hcl2.same s24, (s2.trans s24).seq hk, hl, (by rw [Int.zero_add]; exact hway fb hfb), fun H5 p5 s5 n5 e5 => ?_⟩
          rw [Int.zero_add] at e5
          refine ⟨_, s5 _ _ eG, ?_, ?_, qs ++ [p5], ?_, ?_⟩
          · rw [List.length_map, TupsAt.len ht4, List.length_take]
            exact sz4l (by show min j 2 < 100000; omega)
          · exact same_mut (s4.trans s5) nG
          · rw [upd_same, List.map_append]
            rfl
          · rw [take_more hw]
            exact tups_mut (s5 _ _ eG) (TupsAt.snoc e5 (TupsAt.loc (fun a zs e => s5 a _ e) ht4))
        · rintro H4 ⟨s4, qs, eG, ht4⟩
          have s24 := s3.trans s4
          have hq2 : ∃ q0 q1, qs = [q0, q1] := by
            have := TupsAt.len ht4
            match qs, this with
            | [q0, q1], _ => exact ⟨q0, q1, rfl⟩
          obtain ⟨q0, q1, rfl⟩ := hq2
          obtain ⟨eq0, eq1, _⟩ := ht4
          refine ⟨G, [.ref q0, .ref q1], way x cs r (i : Nat) 0, [way x cs r (i : Nat) 1], rfl, SqL.of eG, .cons (dp_tup (SqT.of eq0)) (.cons (dp_tup (SqT.of eq1)) .nil), fun j p hj hm hsq => ?_⟩
          have fin : ∀ p, H4 p = some (.tup ((bestT x cs r (i : Nat)).map V.int)) → ∃ acc, H4 E2 = some (.lst acc) ∧ acc.length < sizeLine ∧ Same H (upd H4 E2 (.lst (acc ++ [.ref p]))) ∧ BeatAt (upd H4 E2 (.lst (acc ++ [.ref p]))) D ((List.range 4).map fun l => ncl x (l : Nat) r) ∧ E2 ≠ D ∧ BeatAt (upd H4 E2 (.lst (acc ++ [.ref p]))) E2 ((List.range (i + 1)).map fun s => bestT x cs r (s : Nat)) := by
            intro p ep
            refine ⟨_, s24 _ _ eE, ?_, ?_, (hcl2.same s24).mut (s24 _ _ eE) hne.symm, hne, ps ++ [p], ?_, ?_⟩
            · rw [List.length_map, TupsAt.len htup, List.length_map, List.length_range]
              exact sz4l (by omega)
            · exact same_mut (s2.trans s24) (s1.free nE)
            · rw [upd_same, List.map_append]
              rfl
            · rw [List.range_succ, List.map_append]
              exact tups_mut (s24 _ _ eE) (TupsAt.snoc ep (TupsAt.loc (fun a zs e => s24 a _ e) htup))
          match j, hj, hm with
          | 0, hj, hm =>
            cases hj
            have hm : _ = bestT x cs r (i : Nat) := Option.some.inj hm
            exact fin q0 (by rw [← hm]; exact eq0)
          | 1, hj, hm =>
            cases hj
            have hm : _ = bestT x cs r (i : Nat) := Option.some.inj hm
            exact fin q1 (by rw [← hm]; exact eq1)
      · rintro H2 ⟨s2, _, _, hE⟩
        exact q H2 E2 s2 (s1.free nE) hE
theorem sc_tail_costs : FnScope ["heard", "rate", "costs", "number", "squares", "state"] ["heard", "rate"] (defScope s_tail_costs) := ⟨rfl, rfl, rfl, by decide +kernel, rfl, by decide +kernel, by decide +kernel⟩
def spTC (K : PySem.W.Frag) : Sp := fun vs H Q _ => ∃ (a : Addr) (hs : List Int) (r : Int), vs = [.ref a, .int r] ∧ okR r ∧ SqL K H a (hs.map V.int) ∧ ∀ (H' : Hp) (p : Addr), Same H H' → H p = none → H' p = some (.lst ((tailC r hs).map V.int)) → Q (.ref p) H'
theorem drop_back {hs : List Int} {i : Nat} {x : Int} (hi : i < hs.length) (hx : hs[hs.length - 1 - i]? = some x) : hs.drop (hs.length - (i + 1)) = x :: hs.drop (hs.length - i) := by
  have e : hs.length - (i + 1) = hs.length - 1 - i := by omega
  rw [e, List.drop_eq_getElem_cons (by omega)]
  congr 1
  · rw [List.getElem?_eq_getElem (by omega)] at hx
    exact Option.some.inj hx
  · congr 1
    omega
theorem ok_tail_costs {f cN cR : Addr} {fd : FuncData} {k : Nat} {tS : Tok} (F : Fun K "tail_costs" "tail_costs" s_tail_costs f fd) (n_range : mg "range" = none) (n_reversed : mg "reversed" = none) (g_STATES : mg "STATES" = some (.int 4 tS)) (c_apart : Cal P w K mg base k "apart" ["one", "other"] spApart)
    (cw_point_1_rate : CalW P w K mg base k "point" ["number", "rate"] 1 ["rate"] (fun vs zs => vs ++ zs) (spPoint cN cR)) (c_class_of : Cal P w K mg base k "class_of" ["state", "first"] spClass) (c_moved : Cal P w K mg base k "moved" ["state", "first"] spMovedS) : FnOk P w K mg base CX0 (k + 1) f fd ["heard", "rate"] (spTC K) := by
  have sc := sc_tail_costs
  refine F.ok sc (fun vs H Q E h => ?_) (fun cdv A outer s H vs Q E hr h => ?_)
  · obtain ⟨a, hs, r, rfl, _⟩ := h
    rfl
  · obtain ⟨a, hs, r, rfl, ok, hS, q⟩ := h
    refine ⟨_, (pss_cons (ps_set (i := 2) sc.nd rfl (.inr rfl) (pe_op op_rep (pe_lst (pa_cons pe_int pa_nil)) (pe_glob (v := .int 4) (by rfl) g_STATES ⟨_, rfl⟩)))
 (pss_cons (ps_for PassesOwn.never rfl (pi_reversed (by rfl) n_reversed (pa_cons (pv 0) pa_nil)) (pg_name (i := 3) sc.nd rfl (.inr rfl))
  (pss_cons (ps_set (i := 4) sc.nd rfl (.inr rfl) (pe_lc (own := [("state", 5)]) (g := gName 5) (by rfl) sc.nd (pi_range1 (by rfl) n_range (pa_cons (pe_glob (v := .int 4) (by rfl) g_STATES ⟨_, rfl⟩) pa_nil)) (blkOk_by (own := [("state", 5)]) (N := ["heard", "rate", "costs", "number", "squares", "state"]) (sc := defScope s_tail_costs) (by decide +kernel)) (fun _ _ _ _ _ => (pg_name (i := 5) sc.nd rfl (Or.inl rfl))) (fun _ _ _ _ _ => pts_nil) (fun _ _ _ _ _ => (pe_op op_pow (pe_callC c_apart hr (by rfl) (pa_cons (pv 3) (pa_cons (pe_callWF cw_point_1_rate hr (by rfl) (pa_cons (pe_callC c_class_of hr (by rfl) (pa_cons (pv 5) (pa_cons pe_int pa_nil))) pa_nil) (pk_cons (pv 1) pk_nil)) pa_nil))) pe_int))))
 (pss_one (ps_set (i := 2) sc.nd rfl (.inr rfl) (pe_lc (own := [("state", 5)]) (g := gName 5) (by rfl) sc.nd (pi_range1 (by rfl) n_range (pa_cons (pe_glob (v := .int 4) (by rfl) g_STATES ⟨_, rfl⟩) pa_nil)) (blkOk_by (own := [("state", 5)]) (N := ["heard", "rate", "costs", "number", "squares", "state"]) (sc := defScope s_tail_costs) (by decide +kernel)) (fun _ _ _ _ _ => (pg_name (i := 5) sc.nd rfl (Or.inl rfl))) (fun _ _ _ _ _ => pts_nil) (fun _ _ _ _ _ => (pe_op op_add (pe_ix (ix_listK K rfl) (pv 4) (pv 5) (fun _ _ => rfl)) (pe_ix (ix_listK K rfl) (pv 2) (pe_callC c_moved hr (by rfl) (pa_cons (pv 5) (pa_cons pe_int pa_nil))) (fun _ _ => rfl)))))))))
 (pss_one (ps_ret (pv 2))))), ?_⟩
    have hpt : 4 ≤ ptsI r := by rcases pts_step ok with ⟨_, e, _⟩ | ⟨_, e, _⟩ | ⟨_, e, _⟩ | ⟨_, e, _⟩ <;> rw [e] <;> decide
    refine ⟨(by show 1 ≤ sizeLine; decide), fun p1 n1 => ?_⟩
    have s1 := same_upd (o := .lst [.int 0]) n1
    refine ⟨p1, 4, _, rfl, rfl, upd_same, by decide, by decide, (by show 1 * 4 ≤ sizeLine; decide), fun p2 n2 => ?_⟩
    have s2 := s1.trans (same_upd (o := .lst (([0, 0, 0, 0] : List Int).map V.int)) n2)
    refine ⟨_, rfl, a, _, rfl, s2.seq hS, ?_⟩
    refine RT.for_Itv (K := K) (a := a) (xs := hs.map V.int) (fun i σ H' => ∃ (pk : Addr) (y3 y4 y5 : Option V), σ = [some (.ref a), some (.int r), some (.ref pk), y3, y4, y5] ∧ Same H H' ∧ H pk = none ∧ H' pk = some (.lst ((tailC r (hs.drop (hs.length - i))).map V.int))) ⟨p2, none, none, none, rfl, s2, s1.free n2, ?_⟩ (fun i σ H' h => ?_) ?_ ?_
    · rw [Nat.sub_zero, List.drop_length]
      exact upd_same
    · obtain ⟨_, _, _, _, _, sm, _⟩ := h
      exact sm.seq hS
    · rintro i x σ H3 hi hx ⟨pk, y3, y4, y5, rfl, s3, npk, epk⟩
      rw [List.length_map] at hi hx
      obtain ⟨z, hz, rfl⟩ := getI hx
      rw [drop_back hi hz]
      have hcl := tailC_len r (hs.drop (hs.length - i))
      generalize hcs : tailC r (hs.drop (hs.length - i)) = cs at epk hcl
      have e0 : tailC r (z :: hs.drop (hs.length - i)) = (List.range 4).map fun s => sqA z (clS (s : Nat) 0) r + cs.getD (mvS (s : Nat) 0).toNat 0 := by
        rw [← hcs]
        rfl
      rw [e0]
      refine name_by ?_
      dsimp only
      -- squares
      refine ⟨4, rfl, by decide, by decide, fun D nD => lc_range (lo := 0) (n := 4) (fun j H' => Same H3 H' ∧ H' D = some (.lst (((List.range j).map fun s => sqA z (clS ((s : Nat) : Int) 0) r).map V.int))) ⟨same_upd nD, upd_same⟩ ?_ ?_⟩
      · rintro j H4 hj ⟨s4, eD⟩
        have hj : j < 4 := hj
        refine ⟨rfl, tYes_by (iteT ?_)⟩
        have st : St4 ((j : Nat) : Int) := ⟨by omega, by omega⟩
        have hc4 := cl_st ((j : Nat) : Int) 0
        obtain ⟨c1, c2⟩ := id hc4
        refine ⟨_, rfl, _, rfl, _, 0, rfl, (by rw [Int.zero_add]; exact st), .inl rfl, _, rfl, rfl, rfl, _, r, rfl, (fun _ _ _ => ?_), (fun _ bad => by rw [Int.zero_add] at bad; rcases bad with y | y <;> omega), (fun no => absurd ok no)⟩
        refine ⟨_, _, rfl, _, _, rfl, rfl, ⟨by decide, by decide, ?_⟩, _, eD, ?_, same_mut s4 nD, ?_⟩
        · have h1 := apart_le z (pointI (clS (0 + ((j : Nat) : Int)) 0) r)
          omega
        · rw [List.length_map, List.length_map, List.length_range]
          exact sz4l (by omega)
        · rw [upd_same, List.range_succ, List.map_append, List.map_append, Int.zero_add]
          rfl
      · rintro H4 ⟨s4, eD⟩
        refine name_by ?_
        dsimp only
        -- costs
        refine ⟨4, rfl, by decide, by decide, fun E2 nE => lc_range (lo := 0) (n := 4) (fun j H' => Same H4 H' ∧ H' E2 = some (.lst (((List.range j).map fun s => sqA z (clS ((s : Nat) : Int) 0) r + cs.getD (mvS ((s : Nat) : Int) 0).toNat 0).map V.int))) ⟨same_upd nE, upd_same⟩ ?_ ?_⟩
        · rintro j H5 hj ⟨s5, eE⟩
          have hj : j < 4 := hj
          refine ⟨rfl, tYes_by (iteT ?_)⟩
          have g : atI (((List.range 4).map fun s => sqA z (clS ((s : Nat) : Int) 0) r).map V.int) (0 + ((j : Nat) : Int)) = some (.int (sqA z (clS ((j : Nat) : Int) 0) r)) := by
            rw [Int.zero_add]
            refine atI_nat ?_
            rw [List.getElem?_map, List.getElem?_map, List.getElem?_range hj]
            rfl
          refine ⟨_, rfl, _, rfl, D, _, _, _, rfl, rfl, SqL.of (s5 _ _ eD), g, _, rfl, _, rfl, _, 0, rfl, pk, _, _, _, rfl, rfl, SqL.of (s5 _ _ (s4 _ _ epk)), (by rw [Int.zero_add]; exact at_st hcl (mv_st (.inl rfl))), _, _, rfl, rfl, _, eE, ?_, same_mut s5 nE, ?_⟩
          · rw [List.length_map, List.length_map, List.length_range]
            exact sz4l (by omega)
          · rw [upd_same, List.range_succ, List.map_append, List.map_append]
            rfl
        · rintro H5 ⟨s5, eE⟩
          exact ⟨E2, _, _, _, rfl, (s3.trans s4).trans s5, (s3.trans s4).free nE, eE⟩
    · rintro σ H3 ⟨pk, y3, y4, y5, rfl, s3, npk, epk⟩
      rw [List.length_map, Nat.sub_self, List.drop_zero] at epk
      exact ⟨_, rfl, q H3 pk s3 npk epk⟩
theorem sc_bits_along : FnScope ["beats", "rate", "bits", "state", "beat", "cost", "first", "rest"] ["beats", "rate"] (defScope s_bits_along) := ⟨rfl, rfl, rfl, by decide +kernel, rfl, by decide +kernel, by decide +kernel⟩
def GoodT (r : Nat) (t : List Int) : Prop := ∃ c f m, t = [c, f, m] ∧ isB f ∧ 0 ≤ m ∧ m < 2 ^ (r - 1)
def GoodB (r : Nat) (bs : List (List (List Int))) : Prop := ∀ b ∈ bs, b.length = 4 ∧ ∀ t ∈ b, GoodT r t
def spBA (K : PySem.W.Frag) : Sp := fun vs H Q _ => ∃ (pb : Addr) (qs : List Addr) (bs : List (List (List Int))) (r : Nat), vs = [.ref pb, .int (r : Int)] ∧ okR (r : Int) ∧ H pb = some (.lst (qs.map V.ref)) ∧ BeatsAt H qs bs ∧ GoodB r bs ∧ bs.length ≤ 2000 ∧
  ∀ (H' : Hp) (p : Addr), Same H H' → H p = none → H' p = some (.lst ((along r 0 bs).map V.int)) → Q (.ref p) H'
theorem along_len {r : Nat} (hr : 0 < r) : ∀ (bs : List (List (List Int))) (s : Int), (along r s bs).length = r * bs.length
  | [], s => by rw [List.length_nil, Nat.mul_zero]; rfl
  | b :: bs, s => by
    show (_ :: (wr (r - 1) _ ++ along r _ bs)).length = _
    rw [List.length_cons, List.length_append, wr_len, along_len hr bs, List.length_cons, Nat.mul_add]
    omega
theorem ok_bits_along {f cN : Addr} {fd : FuncData} {k : Nat} (F : Fun K "bits_along" "bits_along" s_bits_along f fd) (c_number_bits : CalX P w K mg base k "number_bits" ["number", "many"] (spNbX cN)) (c_moved : Cal P w K mg base k "moved" ["state", "first"] spMovedS) : FnOk P w K mg base CX0 (k + 1) f fd ["beats", "rate"] (spBA K) := by
  have sc := sc_bits_along
  refine F.ok sc (fun vs H Q E h => ?_) (fun cdv A outer s H vs Q E hr h => ?_)
  · obtain ⟨pb, qs, bs, r, rfl, _⟩ := h
    rfl
  · obtain ⟨pb, qs, bs, r, rfl, ok, epb, hbs, hgood, hlen, q⟩ := h
    refine ⟨_, (pss_cons (ps_set (i := 2) sc.nd rfl (.inl rfl) (pe_lst pa_nil))
 (pss_cons (ps_set (i := 3) sc.nd rfl (.inl rfl) pe_int)
 (pss_cons (ps_for PassesOwn.never rfl (pi_listK K rfl (pv 0)) (pg_name (i := 4) sc.nd rfl (.inl rfl))
  (pss_cons (ps_asg (pe_ix (ix_listK K rfl) (pv 4) (pv 3) (fun _ _ => rfl)) (pg_tup rfl (pgs_cons (pg_name (i := 5) sc.nd rfl (.inl rfl)) (pgs_cons (pg_name (i := 6) sc.nd rfl (.inl rfl)) (pgs_cons (pg_name (i := 7) sc.nd rfl (.inl rfl)) pgs_nil)))))
 (pss_cons (ps_expr (pe_bmK K rfl PySem.F.plainAttrs_list PySem.F.slot_list_append PySem.F.type_list_append mt_append (pv 2) (pa_cons (pv 6) pa_nil)))
 (pss_cons (ps_expr (pe_bmK K rfl PySem.F.plainAttrs_list PySem.F.slot_list_extend PySem.F.type_list_extend mt_extend (pv 2) (pa_cons (pe_callF c_number_bits hr (by rfl) (pa_cons (pv 7) (pa_cons (pe_op op_sub (pv 1) pe_int) pa_nil))) pa_nil)))
 (pss_one (ps_set (i := 3) sc.nd rfl (.inl rfl) (pe_callC c_moved hr (by rfl) (pa_cons (pv 3) (pa_cons (pv 6) pa_nil)))))))))
 (pss_one (ps_ret (pv 2)))))), ?_⟩
    obtain ⟨r1, r4⟩ := id ok
    refine ⟨Nat.zero_le _, fun po no => ?_⟩
    have s1 := same_upd (o := .lst []) no
    refine ⟨_, rfl, pb, rfl, ⟨_, SqL.of (s1 _ _ epb)⟩, for_list (K := K) (a := pb) (xs := qs.map V.ref) (fun i σ H' => ∃ (st : Int) (out : List Int) (y4 y5 y6 y7 : Option V), σ = [some (.ref pb), some (.int (r : Int)), some (.ref po), some (.int st), y4, y5, y6, y7] ∧ St4 st ∧ Same H H' ∧ H' po = some (.lst (out.map V.int)) ∧ out ++ along r st (bs.drop i) = along r 0 bs ∧ out.length ≤ 4 * i)
      ⟨0, [], none, none, none, none, rfl, st4_0, s1, upd_same, rfl, Nat.zero_le _⟩ (fun i σ H' _ h => ?_) ?_ ?_⟩
    · obtain ⟨_, _, _, _, _, _, _, _, sm, _⟩ := h
      exact SqL.of (sm _ _ epb)
    · rintro i x σ H2 hx ⟨st, out, y4, y5, y6, y7, rfl, hst, s2, eo, hout, hol⟩
      obtain ⟨q0, hq, rfl⟩ : ∃ p, qs[i]? = some p ∧ x = V.ref p := by
        rw [List.getElem?_map] at hx
        cases e : qs[i]? with
        | none => rw [e] at hx; cases hx
        | some p => rw [e] at hx; exact ⟨p, rfl, (Option.some.inj hx).symm⟩
      obtain ⟨b, hb, hbeat⟩ := BeatsAt.at hbs hq
      have hil : i < bs.length := (List.getElem?_eq_some_iff.mp hb).1
      obtain ⟨hb4, hbt⟩ := hgood b (List.mem_of_getElem? hb)
      obtain ⟨sn, rfl, hsn⟩ := st4_nat hst
      obtain ⟨t, ht⟩ := getElem?_ex (show sn < b.length by omega)
      obtain ⟨cc, fb, m, rfl, hfb, m0, m1⟩ := hbt t (List.mem_of_getElem? ht)
      obtain ⟨ps, eq0, htup⟩ := hbeat.same s2
      obtain ⟨p, hp, ep⟩ := TupsAt.at htup ht
      have ed : bs.drop i = b :: bs.drop (i + 1) := by
        rw [List.drop_eq_getElem_cons hil]
        congr 1
        rw [List.getElem?_eq_getElem hil] at hb
        exact Option.some.inj hb
      have eb : b.getD sn [] = [cc, fb, m] := by rw [List.getD_eq_getElem?_getD, ht]; rfl
      rw [ed] at hout
      have hout : out ++ ((b.getD ((sn : Int).toNat) []).getD 1 0 :: (wr (r - 1) ((b.getD ((sn : Int).toNat) []).getD 2 0) ++ along r (mvS (sn : Int) ((b.getD ((sn : Int).toNat) []).getD 1 0)) (bs.drop (i + 1)))) = along r 0 bs := hout
      rw [Int.toNat_natCast, eb] at hout
      have hout : out ++ (fb :: (wr (r - 1) m ++ along r (mvS (sn : Int) fb) (bs.drop (i + 1)))) = along r 0 bs := hout
      refine ⟨_, rfl, _, rfl, q0, _, _, _, rfl, rfl, SqL.of eq0, atI_nat (by rw [List.getElem?_map, hp]; rfl), ?_⟩
      refine ⟨p, _, rfl, SqT.of ep, rfl, _, _, rfl, _, _, rfl, _, _, rfl, rfl, ?_⟩
      refine ⟨_, rfl, .inl ⟨rfl, _, SqL.of eo⟩, _, rfl, po, _, _, rfl, rfl, eo, (by rw [List.length_map]; exact sz4l (by omega)), ?_⟩
      dsimp only
      have s3 : Same H (upd H2 po (.lst (out.map V.int ++ [.int fb]))) := same_mut s2 no
      have eo3 : upd H2 po (.lst (out.map V.int ++ [.int fb])) po = some (.lst ((out ++ [fb]).map V.int)) := by rw [upd_same, List.map_append]; rfl
      generalize upd H2 po (.lst (out.map V.int ++ [.int fb])) = H3 at s3 eo3 ⊢
      refine ⟨_, rfl, .inl ⟨rfl, _, SqL.of eo3⟩, _, rfl, _, rfl, _, _, rfl, rfl, m, (r : Int) - 1, rfl, (fun mn em _ _ _ H4 p4 s4 n4 e4 => ?_), (fun bad => ?_)⟩
      · obtain rfl : mn = r - 1 := by omega
        refine ⟨po, p4, _, _, rfl, rfl, s4 _ _ eo3, e4, (by rw [List.length_map, List.length_map, wr_len, List.length_append]; exact sz4 (by show out.length + 1 + (r - 1) ≤ 100000; omega)), ?_⟩
        refine ⟨_, rfl, _, rfl, _, _, rfl, ?_⟩
        refine ⟨mvS (sn : Int) fb, out ++ [fb] ++ wr (r - 1) m, _, _, _, _, rfl, mv_st hfb, same_mut (s3.trans s4) no, ?_, ?_, ?_⟩
        · rw [upd_same]
          simp
        · rw [← hout]
          simp
        · rw [List.length_append, List.length_append, wr_len]
          show out.length + 1 + (r - 1) ≤ 4 * (i + 1)
          omega
      · exfalso
        have e1 : ((r : Int) - 1).toNat = r - 1 := by omega
        rw [e1] at bad
        rcases bad with h | h | h | h
        · omega
        · omega
        · omega
        · omega
    · rintro σ H2 ⟨st, out, y4, y5, y6, y7, rfl, hst, s2, eo, hout, hol⟩
      rw [List.length_map, BeatsAt.len hbs, List.drop_length] at hout
      have hout : out ++ [] = along r 0 bs := hout
      rw [List.append_nil] at hout
      rw [hout] at eo
      exact ⟨_, rfl, q H2 po s2 no eo⟩
theorem sc_heard_path : FnScope ["heard", "rate", "end", "costs", "beats", "number", "beat", "bits", "cost", "first", "rest"] ["heard", "rate"] (defScope s_heard_path) := ⟨rfl, rfl, rfl, by decide +kernel, rfl, by decide +kernel, by decide +kernel⟩
def spHP (K : PySem.W.Frag) (cN cR : Addr) : Sp := fun vs H Q E => ∃ (a : Addr) (hs : List Int) (r : Int), vs = [.ref a, .int r] ∧ SqL K H a (hs.map V.int) ∧ hs.length ≤ 1000 ∧
  (okR r → 2 ≤ hs.length → ∀ (H' : Hp) (p pb : Addr), Same H H' → H p = none → H pb = none → H' p = some (.tup [.ref pb, .int (hpCost r.toNat hs)]) → H' pb = some (.lst ((hpRow r.toNat hs).map V.int)) → Q (.ref p) H') ∧
  (okR r → hs.length < 2 → Ref0 cN "BadCount" H E) ∧ (¬ okR r → Ref0 cR "BadRate" H E)
theorem way_good {x : Int} {cs : List Int} {r : Nat} {s f : Int} (ok : okR (r : Int)) (hf : isB f) : GoodT r (way x cs (r : Int) s f) := by
  have h := ncl_m (x := x) (low := clS s f) ok
  have e : ((r : Int) - 1).toNat = r - 1 := by omega
  rw [e] at h
  exact ⟨_, _, _, rfl, hf, h.1, h.2⟩
theorem bestR_good {x : Int} {cs : List Int} {r : Nat} (ok : okR (r : Int)) : (bestR x cs (r : Int)).length = 4 ∧ ∀ t ∈ bestR x cs (r : Int), GoodT r t := by
  refine ⟨bestR_len _ _ _, fun t ht => ?_⟩
  obtain ⟨s, _, rfl⟩ := List.mem_map.mp ht
  rcases best_three x cs (r : Int) (s : Nat) with h | h <;> rw [h]
  · exact way_good ok (.inl rfl)
  · exact way_good ok (.inr rfl)
theorem dpB_good {r : Nat} (ok : okR (r : Int)) (tc : List Int) : ∀ hs, GoodB r (dpB (r : Int) tc hs)
  | [] => fun b hb => absurd hb List.not_mem_nil
  | h :: hs => fun b hb => by
    rcases List.mem_cons.mp hb with rfl | hb
    · exact bestR_good ok
    · exact dpB_good ok tc hs b hb
theorem ok_heard_path {f cN cR : Addr} {fd : FuncData} {k : Nat} {kws : List (Str × V)} {tT : Tok} (F : FunD K "heard_path" "heard_path" (defArgs s_heard_path) (defBody s_heard_path) (defScope s_heard_path) [] kws f fd) (n_len : mg "len" = none) (n_reversed : mg "reversed" = none) (g_TAIL : mg "TAIL" = some (.int 2 tT))
    (x_BadCount : XcOk P w K mg base k "BadCount" cN (spIni0 K cN "BadCount")) (c_check_rate : CalX P w K mg base (k + 1) "check_rate" ["rate"] (spCR cR)) (c_tail_costs : Cal P w K mg base (k + 1) "tail_costs" ["heard", "rate"] (spTC K))
    (c_best_of_beat : Cal P w K mg base (k + 1) "best_of_beat" ["number", "costs", "rate"] (spBB K)) (c_bits_along : Cal P w K mg base (k + 1) "bits_along" ["beats", "rate"] (spBA K)) : FnOk P w K mg base (L2.CX P w) (k + 2) f fd ["heard", "rate"] (spHP K cN cR) := by
  have sc := sc_heard_path
  refine F.ok sc (fun vs H Q E h => ?_) (fun cdv A outer s H vs Q E hr h => ?_)
  · obtain ⟨a, hs, r, rfl, _⟩ := h
    rfl
  · obtain ⟨a, hs, r, rfl, hS, hl, q, qn, qr⟩ := h
    refine ⟨_, (pss_cons (ps_expr (pe_callP c_check_rate hr (passes_call (takes_of rfl rfl rfl rfl) (fun _ _ _ _ h => h)) (by rfl) (pa_cons (pv 1) pa_nil)))
 (pss_cons (ps_if (pt_cmpR op_lt (pe_callB (call_lenK K rfl) (by rfl) n_len PySem.boot_len (pa_cons (pv 0) pa_nil)) (pe_glob (v := .int 2) (by rfl) g_TAIL ⟨_, rfl⟩) (nomark _))
  (pss_one (ps_raise rfl (takes_of rfl rfl rfl rfl) (pmk_c0 x_BadCount hr (by rfl))))
  pss_nil)
 (pss_cons (ps_set (i := 2) sc.nd rfl (.inl rfl) (pe_op op_sub (pe_callB (call_lenK K rfl) (by rfl) n_len PySem.boot_len (pa_cons (pv 0) pa_nil)) (pe_glob (v := .int 2) (by rfl) g_TAIL ⟨_, rfl⟩)))
 (pss_cons (ps_set (i := 3) sc.nd rfl (.inl rfl) (pe_callC c_tail_costs hr (by rfl) (pa_cons (pe_slice (sl_listK K rfl) (pv 0) (po_some (pv 2)) po_none) (pa_cons (pv 1) pa_nil))))
 (pss_cons (ps_set (i := 4) sc.nd rfl (.inl rfl) (pe_lst pa_nil))
 (pss_cons (ps_for (passes_of rfl) rfl (pi_reversed (by rfl) n_reversed (pa_cons (pe_slice (sl_listK K rfl) (pv 0) po_none (po_some (pv 2))) pa_nil)) (pg_name (i := 5) sc.nd rfl (.inl rfl))
  (pss_cons (ps_set (i := 6) sc.nd rfl (.inl rfl) (pe_callC c_best_of_beat hr (by rfl) (pa_cons (pv 5) (pa_cons (pv 3) (pa_cons (pv 1) pa_nil)))))
 (pss_cons (ps_setLc (i := 3) (own := [("cost", 8), ("first", 9), ("rest", 10)]) (g := (gTup K 3 (gCons (gName 8) (gCons (gName 9) (gCons (gName 10) gNil))))) (by rfl) sc.nd rfl rfl (sw_true rfl rfl rfl (by decide +kernel)) (pi_listK K rfl (pv 6)) (blkOk_by (own := [("cost", 8), ("first", 9), ("rest", 10)]) (N := ["heard", "rate", "end", "costs", "beats", "number", "beat", "bits", "cost", "first", "rest"]) (sc := defScope s_heard_path) (by decide +kernel)) (fun _ _ _ _ _ => (pg_tup rfl (pgs_cons (pg_name (i := 8) sc.nd rfl (Or.inl rfl)) (pgs_cons (pg_name (i := 9) sc.nd rfl (Or.inl rfl)) (pgs_cons (pg_name (i := 10) sc.nd rfl (Or.inl rfl)) pgs_nil))))) (fun _ _ _ _ _ => pts_nil) (fun _ _ _ _ _ => (pv 8)))
 (pss_one (ps_expr (pe_bmK K rfl PySem.F.plainAttrs_list PySem.F.slot_list_append PySem.F.type_list_append mt_append (pv 4) (pa_cons (pv 6) pa_nil)))))))
 (pss_cons (ps_expr (pe_bm0K K rfl PySem.F.plainAttrs_list PySem.F.slot_list_reverse PySem.F.type_list_reverse mt_reverse (pv 4)))
 (pss_cons (ps_set (i := 7) sc.nd rfl (.inl rfl) (pe_callC c_bits_along hr (by rfl) (pa_cons (pv 4) (pa_cons (pv 1) pa_nil))))
 (pss_one (ps_ret (pe_tup (pa_cons (pv 7) (pa_cons (pe_ix (ix_listK K rfl) (pv 3) pe_int (fun _ _ => rfl)) pa_nil))))))))))))), ?_⟩
    refine ⟨_, rfl, r, rfl, (fun ok => ?_), qr⟩
    obtain ⟨r1, r4⟩ := id ok
    obtain ⟨rn, rfl⟩ : ∃ rn : Nat, r = (rn : Int) := ⟨r.toNat, by omega⟩
    rw [Int.toNat_natCast] at q
    refine ⟨_, rfl, a, _, rfl, .inl hS, _, _, rfl, rfl, _, rfl, ite2 (fun e => ?_) (fun e => ?_)⟩
    · have e : ((hs.map V.int).length : Int) < 2 := of_decide_eq_true e
      rw [List.length_map] at e
      exact mk_inner0 (fun H3 d s3 nd ed => qn ok (by omega) H3 d s3 nd ed)
    have e : ¬ ((hs.map V.int).length : Int) < 2 := fun h => e (decide_eq_true h)
    rw [List.length_map] at e
    have h2 : 2 ≤ hs.length := by omega
    refine ⟨_, rfl, a, _, rfl, .inl hS, _, _, rfl, rfl, ?_⟩
    have ee : ((hs.map V.int).length : Int) - 2 = ((hs.length - 2 : Nat) : Int) := by rw [List.length_map]; omega
    refine name_by ?_
    dsimp only
    rw [ee]
    generalize hn : hs.length - 2 = n2
    -- tail
    refine ⟨_, rfl, _, rfl, _, rfl, a, _, rfl, hS, fun p1 n1 => ?_⟩
    rw [cut_from_n, ← List.map_drop]
    have s1 := same_upd (o := .lst ((hs.drop n2).map V.int)) n1
    refine ⟨_, rfl, p1, hs.drop n2, (rn : Int), rfl, ok, SqL.of upd_same, fun H2 pk s2 n2' e2 => ?_⟩
    have s12 := s1.trans s2
    have hk0 := tailC_len (rn : Int) (hs.drop n2)
    generalize htc : tailC (rn : Int) (hs.drop n2) = tc at e2 hk0
    have nk : H pk = none := s1.free n2'
    refine ⟨Nat.zero_le _, fun pb n3 => ?_⟩
    have nb0 : H pb = none := s12.free n3
    have s3 := s12.trans (same_upd (o := .lst []) n3)
    have e23 := same_upd (o := .lst []) n3 _ _ e2
    have eb3 : upd H2 pb (.lst []) pb = some (.lst []) := upd_same
    generalize upd H2 pb (.lst []) = H3 at s3 e23 eb3 ⊢
    refine ⟨_, rfl, _, rfl, n2, rfl, a, _, rfl, s3.seq hS, fun pz n4 => ?_⟩
    rw [cut_to_n, ← List.map_take]
    have s4 := s3.trans (same_upd (o := .lst ((hs.take n2).map V.int)) n4)
    have e24 := same_upd (o := .lst ((hs.take n2).map V.int)) n4 _ _ e23
    have eb4 := same_upd (o := .lst ((hs.take n2).map V.int)) n4 _ _ eb3
    have nz : pb ≠ pz := ne_of_none eb3 n4
    have ez4 : upd H3 pz (.lst ((hs.take n2).map V.int)) pz = some (.lst ((hs.take n2).map V.int)) := upd_same
    generalize upd H3 pz (.lst ((hs.take n2).map V.int)) = H4 at s4 e24 eb4 ez4 ⊢
    have hhl : (hs.take n2).length ≤ 1000 := by rw [List.length_take]; omega
    have hhp : hpRow rn hs = along rn 0 (dpB (rn : Int) tc (hs.take n2)) ∧ hpCost rn hs = (dpC (rn : Int) tc (hs.take n2)).getD 0 0 := by
      unfold hpRow hpCost
      rw [hn, htc]
      exact ⟨rfl, rfl⟩
    rw [hhp.1, hhp.2] at q
    generalize hs.take n2 = hd at ez4 hhl q
    refine ⟨pz, _, rfl, SqL.of ez4, ?_⟩
    refine RT.for_Itv (K := K) (a := pz) (xs := hd.map V.int) (fun i σ H' => ∃ (pk : Addr) (qs : List Addr) (y5 y6 : Option V), σ = [some (.ref a), some (.int (rn : Int)), some (.int (n2 : Int)), some (.ref pk), some (.ref pb), y5, y6, none, none, none, none] ∧ Same H H' ∧ H' pk = some (.lst ((dpC (rn : Int) tc (hd.drop (hd.length - i))).map V.int)) ∧ pk ≠ pb ∧
      H' pb = some (.lst (qs.map V.ref)) ∧ BeatsAt H' qs (dpB (rn : Int) tc (hd.drop (hd.length - i))).reverse ∧ pb ∉ qs ∧ H' pz = some (.lst (hd.map V.int))) ⟨pk, [], none, none, rfl, s4, ?_, ?_, eb4, ?_, List.not_mem_nil, ez4⟩ (fun i σ H' h => ?_) ?_ ?_
    · rw [Nat.sub_zero, List.drop_length]
      exact e24
    · exact ne_of_none e2 n3
    · rw [Nat.sub_zero, List.drop_length]
      trivial
    · obtain ⟨_, _, _, _, _, _, _, _, _, _, _, h⟩ := h
      exact SqL.of h
    · rintro i x σ H5 hi hx ⟨pk, qs, y5, y6, rfl, s5, ek, nkb, eb, hbs, hnb, ez⟩
      rw [List.length_map] at hi hx
      obtain ⟨z, hz, rfl⟩ := getI hx
      rw [drop_back hi hz]
      have hcl := dpC_len (rn : Int) tc hk0 (hd.drop (hd.length - i))
      have hbl : (dpB (rn : Int) tc (hd.drop (hd.length - i))).length ≤ 1000 := by rw [dpB_len, List.length_drop]; omega
      have eC : dpC (rn : Int) tc (z :: hd.drop (hd.length - i)) = costsOf (bestR z (dpC (rn : Int) tc (hd.drop (hd.length - i))) (rn : Int)) := rfl
      have eB : (dpB (rn : Int) tc (z :: hd.drop (hd.length - i))).reverse = (dpB (rn : Int) tc (hd.drop (hd.length - i))).reverse ++ [bestR z (dpC (rn : Int) tc (hd.drop (hd.length - i))) (rn : Int)] := by
        show (_ :: _).reverse = _
        rw [List.reverse_cons]
      rw [eC, eB]
      generalize dpC (rn : Int) tc (hd.drop (hd.length - i)) = cs at ek hcl
      generalize dpB (rn : Int) tc (hd.drop (hd.length - i)) = bs at hbs hbl
      have hbg := bestR_good (x := z) (cs := cs) ok
      refine ⟨_, rfl, _, rfl, _, rfl, z, (rn : Int), pk, cs, rfl, ok, SqL.of ek, hcl, fun H6 q6 s6 n6 hb6 => ?_⟩
      generalize bestR z cs (rn : Int) = bR at hb6 hbg
      obtain ⟨ps, eq6, ht6⟩ := hb6
      have hpl : ps.length = 4 := (TupsAt.len ht6).trans hbg.1
      -- costs
      refine ⟨_, rfl, q6, rfl, ⟨_, SqL.of eq6⟩, fun D nD => lc_list (K := K) (a := q6) (xs := ps.map V.ref) (fun j H' => Same H6 H' ∧ H' D = some (.lst ((costsOf (bR.take j)).map V.int))) ⟨same_upd nD, upd_same⟩ (fun j H' _ h => SqL.of (h.1 _ _ eq6)) ?_ ?_⟩
      · rintro j y H7 hy ⟨s7, eD⟩
        obtain ⟨p, hp, rfl⟩ : ∃ p, ps[j]? = some p ∧ y = V.ref p := by
          rw [List.getElem?_map] at hy
          cases e : ps[j]? with
          | none => rw [e] at hy; cases hy
          | some p => rw [e] at hy; exact ⟨p, rfl, (Option.some.inj hy).symm⟩
        have hj : j < bR.length := by have := (List.getElem?_eq_some_iff.mp hp).1; rw [hbg.1]; omega
        obtain ⟨t, ht⟩ := getElem?_ex hj
        obtain ⟨p', hp', ep⟩ := TupsAt.at ht6 ht
        rw [hp] at hp'
        cases hp'
        obtain ⟨cc, fb, m, rfl, _⟩ := hbg.2 t (List.mem_of_getElem? ht)
        refine ⟨p, _, rfl, SqT.of (s7 _ _ ep), rfl, _, _, rfl, _, _, rfl, _, _, rfl, rfl, ?_⟩
        refine ⟨rfl, tYes_by (iteT ?_)⟩
        refine ⟨_, rfl, _, eD, ?_, same_mut s7 nD, ?_⟩
        · unfold costsOf
          rw [List.length_map, List.length_map, List.length_take]
          exact sz4l (by omega)
        · rw [upd_same, take_more ht]
          unfold costsOf
          rw [List.map_append, List.map_append]
          rfl
      · rintro H7 ⟨s7, eD⟩
        rw [List.length_map, hpl, ← hbg.1, List.take_length] at eD
        have s67 := s6.trans s7
        have nDb : D ≠ pb := fun y => by rw [y, s6 _ _ eb] at nD; cases nD
        have nqb : q6 ≠ pb := fun y => by rw [y, eb] at n6; cases n6
        refine name_by ?_
        dsimp only
        have eb7 := s67 _ _ eb
        refine ⟨_, rfl, .inl ⟨rfl, _, SqL.of eb7⟩, _, rfl, pb, _, _, rfl, rfl, eb7, ?_, ?_⟩
        · rw [List.length_map, BeatsAt.len hbs, List.length_reverse]
          exact sz4l (by omega)
        refine ⟨D, qs ++ [q6], _, _, rfl, same_mut (s5.trans s67) nb0, ?_, nDb, ?_, ?_, ?_, ?_⟩
        · rw [upd_ne nDb]
          exact eD
        · rw [upd_same, List.map_append]
          rfl
        · refine BeatsAt.mut eb7 (fun y => ?_) (BeatsAt.snoc (⟨ps, s7 _ _ eq6, TupsAt.loc (fun a zs e => s7 a _ e) ht6⟩ : BeatAt H7 q6 bR) (hbs.same s67))
          rcases List.mem_append.mp y with y | y
          · exact hnb y
          · exact nqb (List.mem_singleton.mp y).symm
        · intro y
          rcases List.mem_append.mp y with y | y
          · exact hnb y
          · exact nqb (List.mem_singleton.mp y).symm
        · rw [upd_ne nz.symm]
          exact s67 _ _ ez
    · rintro σ H5 ⟨pk, qs, y5, y6, rfl, s5, ek, nkb, eb, hbs, hnb, ez⟩
      rw [List.length_map, Nat.sub_self, List.drop_zero] at ek hbs
      have hcl := dpC_len (rn : Int) tc hk0 hd
      refine ⟨_, rfl, .inl ⟨rfl, _, SqL.of eb⟩, pb, _, rfl, rfl, eb, ?_⟩
      rw [← List.map_reverse]
      have hrev := BeatsAt.rev (BeatsAt.mut (ys := qs.reverse.map V.ref) eb hnb hbs)
      rw [List.reverse_reverse] at hrev
      have ek6 : upd H5 pb (.lst (qs.reverse.map V.ref)) pk = some (.lst ((dpC (rn : Int) tc hd).map V.int)) := by rw [upd_ne nkb]; exact ek
      have s6 : Same H (upd H5 pb (.lst (qs.reverse.map V.ref))) := same_mut s5 nb0
      have eb6 : upd H5 pb (.lst (qs.reverse.map V.ref)) pb = some (.lst (qs.reverse.map V.ref)) := upd_same
      generalize upd H5 pb (.lst (qs.reverse.map V.ref)) = H6 at hrev ek6 s6 eb6 ⊢
      refine ⟨_, rfl, _, rfl, pb, qs.reverse, _, rn, rfl, ok, eb6, hrev, dpB_good ok tc hd, (by rw [dpB_len]; omega), fun H7 po s7 n7 e7 => ?_⟩
      refine ⟨_, rfl, _, rfl, pk, _, _, _, rfl, rfl, SqL.of (s7 _ _ ek6), at_st hcl st4_0, (by show 2 ≤ sizeLine; decide), fun p8 n8 => ?_⟩
      exact q ok h2 _ p8 po ((s6.trans s7).trans (same_upd n8)) ((s6.trans s7).free n8) (s6.free n7) upd_same (same_upd n8 _ _ e7)
/-! ### mouths as objects -/
structure MoC (K : PySem.W.Frag) (C : Addr) : Prop where
  cls : Cls K C
  n0 : NoAttr K C "speed"
  n1 : NoAttr K C "shaper"
  n2 : NoAttr K C "scrambler"
  n3 : NoAttr K C "queue"
structure MA where
  r : Addr
  dx : Addr
  s : Addr
  sl : Addr
  st : Addr
  c : Addr
  cl : Addr
  q : Addr
structure MS where
  rate : Int
  ws : List Int
  past : List Int
  cells : List Int
  queue : List Int
abbrev mthF (rate : Int) (s c q : Addr) : List (Str × L2.V) := [(("speed" : Str), .int rate), (("shaper" : Str), .ref s), (("scrambler" : Str), .ref c), (("queue" : Str), .ref q)]
abbrev mthTs (CM CS CC : Addr) (A : MA) (S : MS) : List Th := [tO A.r (.ins CM A.dx (mthF S.rate A.s A.c A.q)), tSh CS A.s A.sl A.st S.past, tSc CC A.c A.cl S.cells, tL A.q (S.queue.map L2.V.int)]
abbrev tMo (CM CS CC : Addr) (A : MA) (S : MS) : Th := tG (mthTs CM CS CC A S)
/-- what is right of a mouth -/
structure MS.Ok (S : MS) : Prop where
  rate : okR S.rate
  sh : okSh S.ws
  tr : trimS S.ws = S.ws
  bits : Bits S.queue
  len : S.queue.length ≤ 4000
def RefM (C : Addr) (nm : Str) (r : Addr) (H : Hp) (E : XK) : Prop := ∀ (H' : Hp) (d : Addr), MvF [r] H H' → H d = none → H' d = some (.xd [(("word" : Str), .str nm)]) → E (.ref C) (some d) H'
def spBuB : Sp := fun vs H Q _ => ∃ (r : Int), vs = [.int r] ∧ okR r ∧ Q (.int (16 * r)) H
def spMoI (K : PySem.W.Frag) (CM CS CC cR cT cN : Addr) : Sp := fun vs H Q E => ∃ (r dx a : Addr) (k : Bool) (ws : List Int) (rate seed : Int), vs = [.ref r, .ref a, .int rate, .int seed] ∧ H r = some (.ins CM dx []) ∧ SqK K k H a (ws.map L2.V.int) ∧ ws.length ≤ 10000 ∧
  (okR rate → okSh ws → 0 ≤ seed → seed < 128 → ∀ (H' : Hp) (A : MA), A.r = r → A.dx = dx → Up (tG [tO r (.ins CM dx [])]) (mthTs CM CS CC A ⟨rate, trimS ws, z4, wr 7 seed, []⟩) H H' → SqT K H' A.st ((trimS ws).map L2.V.int) → Q .non H') ∧
  (¬ okR rate → RefM cR "BadRate" r H E) ∧ (okR rate → ¬ okSh ws → RefM cT "BadTaps" r H E) ∧ (okR rate → okSh ws → (seed < 0 ∨ 128 ≤ seed) → RefM cN "BadCount" r H E)
def spMoTell (K : PySem.W.Frag) (CM CS CC cB cN cT cF : Addr) : Sp := fun vs H Q E => ∃ (A : MA) (S : MS) (a : Addr) (ns : List Int), vs = [.ref A.r, .ref a] ∧ (tMo CM CS CC A S).P H ∧ SqL K H a (ns.map L2.V.int) ∧ ns.length ≤ 9000 ∧ S.queue.length ≤ 4000 ∧
  (Bits ns → 0 < ns.length → ns.length ≤ 256 → S.queue.length < 2000 → ∀ (H' : Hp), Up (tMo CM CS CC A S) (mthTs CM CS CC A { S with queue := S.queue ++ frameL ns }) H H' → Q .non H') ∧
  (Bits ns → 0 < ns.length → ns.length ≤ 256 → 2000 ≤ S.queue.length → ∀ H' d, Same H H' → H d = none → H' d = some (.xd [(("most" : Str), .int 2000), (("word" : Str), .str "Full")]) → E (.ref cF) (some d) H') ∧
  (Bits ns → ns.length = 0 → Ref0 cN "BadCount" H E) ∧
  (Bits ns → 256 < ns.length → ∀ H' d, Same H H' → H d = none → H' d = some (.xd [(("most" : Str), .int 256), (("word" : Str), .str "TooLong")]) → E (.ref cT) (some d) H') ∧
  (∀ (i : Nat) (z : Int), ns[i]? = some z → ¬ isB z → Bits (ns.take i) → RefAt cB "BadBit" i H E)
/-- marks put behind, till there are n bits -/
def padN (n l : Nat) : Nat := (n - l + 7) / 8
def padQ (n : Nat) (q : List Int) : List Int := q ++ (List.replicate (padN n q.length) markL).flatten
theorem padQ_zero {n : Nat} {q : List Int} (h : n ≤ q.length) : padQ n q = q := by
  unfold padQ padN
  rw [show (n - q.length + 7) / 8 = 0 by omega]
  exact List.append_nil q
theorem padQ_more {n : Nat} {q : List Int} (h : q.length < n) : padQ n (q ++ markL) = padQ n q := by
  have e : padN n q.length = padN n (q ++ markL).length + 1 := by
    unfold padN
    rw [List.length_append]
    show _ = (n - (q.length + 8) + 7) / 8 + 1
    omega
  unfold padQ
  rw [e, List.replicate_succ, List.flatten_cons, List.append_assoc]
theorem marks_len : ∀ k : Nat, (List.replicate k markL).flatten.length = 8 * k
  | 0 => rfl
  | k + 1 => by
    rw [List.replicate_succ, List.flatten_cons, List.length_append, marks_len k]
    show 8 + 8 * k = _
    omega
theorem padQ_len {n : Nat} (q : List Int) : n ≤ (padQ n q).length ∧ (padQ n q).length ≤ max q.length (n + 7) := by
  unfold padQ padN
  rw [List.length_append, marks_len]
  omega
theorem mark_bit : Bits markL := fun z hz => by
  simp only [markL, List.mem_cons, List.not_mem_nil, or_false] at hz
  omega
theorem marks_bits : ∀ k : Nat, Bits (List.replicate k markL).flatten
  | 0 => bits_nil
  | k + 1 => by
    rw [List.replicate_succ, List.flatten_cons]
    exact bits_app mark_bit (marks_bits k)
theorem padQ_bits {n : Nat} {q : List Int} (h : Bits q) : Bits (padQ n q) := bits_app h (marks_bits _)
/-- values shaped one behind another: the tones, the past behind -/
def sayL (ws : List Int) : List Int → List Int → List Int
  | _, [] => []
  | ns, v :: vs => toneOf ws ns v :: sayL ws (toneOf ws ns v :: ns.take 3) vs
def sayP (ws : List Int) : List Int → List Int → List Int
  | ns, [] => ns
  | ns, v :: vs => sayP ws (toneOf ws ns v :: ns.take 3) vs
theorem sayL_app (ws : List Int) : ∀ (us vs ns : List Int), sayL ws ns (us ++ vs) = sayL ws ns us ++ sayL ws (sayP ws ns us) vs
  | [], vs, ns => rfl
  | u :: us, vs, ns => congrArg (toneOf ws ns u :: ·) (sayL_app ws us vs _)
theorem sayP_app (ws : List Int) : ∀ (us vs ns : List Int), sayP ws ns (us ++ vs) = sayP ws (sayP ws ns us) vs
  | [], vs, ns => rfl
  | u :: us, vs, ns => sayP_app ws us vs _
theorem sayL_len (ws : List Int) : ∀ (vs ns : List Int), (sayL ws ns vs).length = vs.length
  | [], ns => rfl
  | v :: vs, ns => congrArg (· + 1) (sayL_len ws vs _)
theorem sayL_more {ws ns vs : List Int} {i : Nat} {v : Int} (h : vs[i]? = some v) : sayL ws ns (vs.take (i + 1)) = sayL ws ns (vs.take i) ++ [toneOf ws (sayP ws ns (vs.take i)) v] := by
  rw [take_more h, sayL_app]
  rfl
theorem sayP_more {ws ns vs : List Int} {i : Nat} {v : Int} (h : vs[i]? = some v) : sayP ws ns (vs.take (i + 1)) = toneOf ws (sayP ws ns (vs.take i)) v :: (sayP ws ns (vs.take i)).take 3 := by
  rw [take_more h, sayP_app]
  rfl
/-- a burst: the points said, the tones, the mouth behind -/
def buN (S : MS) : Nat := 16 * S.rate.toNat
def buB (S : MS) : List Int := scO true S.cells ((padQ (buN S) S.queue).take (buN S))
def buV (S : MS) : List Int := (codeL S.rate.toNat (buB S)).map fun c => pointI c S.rate
def buT (S : MS) : List Int := sayL S.ws S.past (buV S)
def buS (S : MS) : MS := ⟨S.rate, S.ws, sayP S.ws S.past (buV S), scC true S.cells ((padQ (buN S) S.queue).take (buN S)), (padQ (buN S) S.queue).drop (buN S)⟩
def spMoBurst (K : PySem.W.Frag) (CM CS CC : Addr) : Sp := fun vs H Q _ => ∃ (A : MA) (S : MS), vs = [.ref A.r] ∧ (tMo CM CS CC A S).P H ∧ S.Ok ∧ SqT K H A.st (S.ws.map L2.V.int) ∧
  ∀ (H' : Hp) (A' : MA) (o : Addr), A'.r = A.r → A'.st = A.st → Up (tMo CM CS CC A S) (tL o ((buT S).map L2.V.int) :: mthTs CM CS CC A' (buS S)) H H' → Q (.ref o) H'
def spMoWait (CM CS CC : Addr) : Sp := fun vs H Q _ => ∃ (A : MA) (S : MS), vs = [.ref A.r] ∧ (tMo CM CS CC A S).P H ∧ Q (.int (S.queue.length : Int)) H
def spMoTurn (CM CS CC cR : Addr) : Sp := fun vs H Q E => ∃ (A : MA) (S : MS) (r : Int), vs = [.ref A.r, .int r] ∧ (tMo CM CS CC A S).P H ∧ (okR r → ∀ H', Up (tMo CM CS CC A S) (mthTs CM CS CC A { S with rate := r }) H H' → Q .non H') ∧ (¬ okR r → Ref0 cR "BadRate" H E)
def spMoTwin (K : PySem.W.Frag) (CM CS CC : Addr) : Sp := fun vs H Q _ => ∃ (A : MA) (S : MS), vs = [.ref A.r] ∧ (tMo CM CS CC A S).P H ∧ S.Ok ∧ SqT K H A.st (S.ws.map L2.V.int) ∧
  ∀ (H' : Hp) (A' : MA), Up (tG []) (mthTs CM CS CC A' S) H H' → SqT K H' A'.st (S.ws.map L2.V.int) → Q (.ref A'.r) H'
theorem frameL_short {ns : List Int} (hb : Bits ns) (h : ns.length ≤ 256) : (frameL ns).length ≤ 2 * ns.length + 48 ∧ Bits (frameL ns) := by
  have hst : (stuffL (ns ++ sealL ns)).length ≤ 2 * (ns ++ sealL ns).length := (stuff_ok (frame_bits hb)).len
  have hsl : (sealL ns).length = 16 := wr_len 16 _
  refine ⟨?_, bits_app (bits_app mark_bit (stuff_ok (frame_bits hb)).bits) mark_bit⟩
  unfold frameL
  rw [List.length_append, List.length_append]
  rw [List.length_append, hsl] at hst
  show 8 + _ + 8 ≤ _
  omega
theorem sc_burst_bits : FnScope ["rate"] ["rate"] (defScope s_burst_bits) := ⟨rfl, rfl, rfl, by decide +kernel, rfl, by decide +kernel, by decide +kernel⟩
theorem ok_burst_bits {f : Addr} {fd : FuncData} {k : Nat} {tD : Tok} (F : Fun K "burst_bits" "burst_bits" s_burst_bits f fd) (g_DATA : mg "DATA" = some (.int 16 tD)) : FnOk P w K mg base CX0 (k + 1) f fd ["rate"] spBuB := by
  have sc := sc_burst_bits
  refine F.ok sc (fun vs H Q E h => ?_) (fun cdv A outer s H vs Q E hr h => ?_)
  · obtain ⟨r, rfl, _⟩ := h
    rfl
  · obtain ⟨r, rfl, ⟨h1, h2⟩, q⟩ := h
    refine ⟨_, (pss_one (ps_ret (pe_op op_mul (pe_glob (v := .int 16) (by rfl) g_DATA ⟨_, rfl⟩) (pv 0)))), ?_⟩
    exact ⟨_, rfl, _, _, rfl, rfl, .inl ⟨by omega, by omega⟩, q⟩
theorem sc_Mouth___init__ : FnScope ["self", "shares", "rate", "seed"] ["self", "shares", "rate", "seed"] (defScope m_Mouth___init__) := ⟨rfl, rfl, rfl, by decide +kernel, rfl, by decide +kernel, by decide +kernel⟩
theorem ok_Mouth___init__ {f C CS CC cR cT cN : Addr} {fd : FuncData} {k : Nat} {dvs : List V} {kws : List (Str × V)} (F : FunD K "__init__" "Mouth.__init__" (defArgs m_Mouth___init__) (defBody m_Mouth___init__) (defScope m_Mouth___init__) dvs kws f fd) (R : MoC K C) (c_check_rate : CalX P w K mg base (k + 1) "check_rate" ["rate"] (spCR cR)) (cnx_Shaper : CalNX P w K mg base k "Shaper" CS ["self", "shares"] (spShI K CS cT)) (cnw_Scrambler : CalNW P w K mg base k "Scrambler" CC ["self", "seed"] ["seed"] (fun vs zs => vs ++ zs) (spSi CC cN)) :
    FnOk P w K mg base (L2.CX P w) (k + 2) f fd ["self", "shares", "rate", "seed"] (spMoI K C CS CC cR cT cN) := by
  have sc := sc_Mouth___init__
  refine F.ok sc (fun vs H Q E h => ?_) (fun cdv A outer s H vs Q E hr h => ?_)
  · obtain ⟨r, dx, a, k, ws, rate, seed, rfl, _⟩ := h
    rfl
  · obtain ⟨r, dx, a, kk, ws, rate, seed, rfl, hins, hS, hl, q, qr, qt, qn⟩ := h
    refine ⟨_, (pss_cons (ps_expr (pe_callP c_check_rate hr (passes_call (takes_of rfl rfl rfl rfl) (fun _ _ _ _ h => h)) (by rfl) (pa_cons (pv 2) pa_nil)))
 (pss_cons (ps_fldK K rfl (pv 0) (pv 2))
 (pss_cons (ps_fldK K rfl (pv 0) (pe_makeX cnx_Shaper hr (passes_call (takes_of rfl rfl rfl rfl) (fun _ _ _ _ h => h)) (by rfl) (pa_cons (pv 1) pa_nil)))
 (pss_cons (ps_fldK K rfl (pv 0) (pe_makeW cnw_Scrambler hr (passes_call (takes_of rfl rfl rfl rfl) (fun _ _ _ _ h => h)) (by rfl) (pk_cons (pv 3) pk_nil)))
 (pss_one (ps_fldK K rfl (pv 0) (pe_lst pa_nil))))))), ?_⟩
    have R0 : Rn K H (tG [tO r (.ins C dx [])]).ft [] [tO r (.ins C dx [])] H := Rn.start (Hs.nil0.cons ⟨hins, trivial⟩ (fun j y hj => by cases hj))
    refine ⟨_, rfl, rate, rfl, (fun ok => ?_), (fun no H' d s nd ed => qr no H' d (.of s) nd ed)⟩
    have q := q ok
    have qt := qt ok
    have qn := qn ok
    refine ⟨_, rfl, _, rfl, r, C, dx, _, rfl, R0.at 0 rfl, R.cls, R.n0, (by show 0 < 1000; decide), ?_⟩
    have e1 : putF "speed" (.int rate) ([] : List (Str × V)) = [(("speed" : Str), .int rate)] := rfl
    rw [e1]
    have R1 := R0.put (o' := .ins C dx [(("speed" : Str), .int rate)]) 0 rfl
    have hS1 : SqK K kk (upd H r (.ins C dx [(("speed" : Str), .int rate)])) a (ws.map V.int) := sqK_updI hins hS
    generalize upd H r (.ins C dx [(("speed" : Str), .int rate)]) = H1 at R1 hS1 ⊢
    clear hS
    refine ⟨_, rfl, fun x dx1 nx ndx nex => ?_⟩
    have up : ∀ {y dy : Addr} {o o' : HO} {H : Hp}, H y = none → H dy = none → Same H (upd (upd H dy o) y o') := fun ny ndy => fun a u e => by rw [upd_ne (ne_of_none e ny), upd_ne (ne_of_none e ndy)]; exact e
    refine ⟨x, dx1, a, kk, ws, rfl, upd_same, hS1.same (up nx ndx), hl, (fun ok2 H2 t l m2 nl hsh ht => ⟨rfl, ?_⟩), (fun no H' d s nd ed => qt no H' d (R1.mvs ((up nx ndx).trans s)) (R1.free (made_none nd)) ed)⟩
    have s2 := made_same nx ndx m2
    have R2 := (R1.newTh (N := tSh CS x l t z4) s2 hsh (fun a ha => by
      rcases in2u ha with rfl | rfl
      · exact nx
      · exact made_none nl)).know ht
    have q := q ok2
    have qn := qn ok2
    clear hsh ht hS1 R1 m2 s2 nl nx ndx nex
    refine ⟨_, rfl, r, C, dx, _, rfl, R2.at 1 rfl, R.cls, R.n1, (by show 1 < 1000; decide), ?_⟩
    have e2 : putF "shaper" (.ref x) [(("speed" : Str), V.int rate)] = [(("speed" : Str), .int rate), (("shaper" : Str), .ref x)] := rfl
    rw [e2]
    have R3 := R2.put (o' := .ins C dx [(("speed" : Str), .int rate), (("shaper" : Str), .ref x)]) 1 rfl
    generalize upd H2 r (.ins C dx [(("speed" : Str), .int rate), (("shaper" : Str), .ref x)]) = H3 at R3 ⊢
    clear R2
    refine ⟨_, rfl, rfl, rfl, fun y dy ny ndy ney => ?_⟩
    refine ⟨y, dy, seed, rfl, upd_same, (fun h0 h1 H4 cl m4 ncl e41 e42 => ⟨rfl, ?_⟩), (fun no H' d s nd ed => qn no H' d (R3.mvs ((up ny ndy).trans s)) (R3.free (made_none nd)) ed)⟩
    have s4 := made_same ny ndy m4
    have hsc : Scr CC y cl (wr 7 seed) H4 := ⟨⟨dy, e41⟩, e42, cells_wr seed⟩
    have R4 := R3.newTh (N := tSc CC y cl (wr 7 seed)) s4 hsc (fun a ha => by
      rcases in2u ha with rfl | rfl
      · exact ny
      · exact made_none ncl)
    have q := q h0 h1
    clear R3 m4 s4 ncl ny ndy ney e41 e42 hsc
    refine ⟨_, rfl, r, C, dx, _, rfl, R4.at 1 rfl, R.cls, R.n2, (by show 2 < 1000; decide), ?_⟩
    have e3 : putF "scrambler" (.ref y) [(("speed" : Str), V.int rate), (("shaper" : Str), .ref x)] = [(("speed" : Str), .int rate), (("shaper" : Str), .ref x), (("scrambler" : Str), .ref y)] := rfl
    rw [e3]
    have R5 := R4.put (o' := .ins C dx [(("speed" : Str), .int rate), (("shaper" : Str), .ref x), (("scrambler" : Str), .ref y)]) 1 rfl
    generalize upd H4 r (.ins C dx [(("speed" : Str), .int rate), (("shaper" : Str), .ref x), (("scrambler" : Str), .ref y)]) = H5 at R5 ⊢
    clear R4
    refine ⟨Nat.zero_le _, fun p np => ?_⟩
    have R6 := R5.newL (xs := []) np
    generalize upd H5 p (.lst []) = H6 at R6 ⊢
    refine ⟨_, rfl, r, C, dx, _, rfl, R6.at 1 rfl, R.cls, R.n3, (by show 3 < 1000; decide), ?_⟩
    have e4 : putF "queue" (.ref p) [(("speed" : Str), V.int rate), (("shaper" : Str), .ref x), (("scrambler" : Str), .ref y)] = mthF rate x y p := rfl
    rw [e4]
    have R7 := (R6.put (o' := .ins C dx (mthF rate x y p)) 1 rfl).sel [0, 3, 2, 1] (by decide)
    exact q _ ⟨r, dx, x, l, t, y, cl, p⟩ rfl rfl R7.out (R7.tup 0 rfl)
theorem sc_Mouth_burst : FnScope ["self", "many", "bits", "tones", "number"] ["self"] (defScope m_Mouth_burst) := ⟨rfl, rfl, rfl, by decide +kernel, rfl, by decide +kernel, by decide +kernel⟩
theorem ok_Mouth_burst {f C CS CC cB cN cR a_MARK : Addr} {fd : FuncData} {k : Nat} (F : Fun K "burst" "Mouth.burst" m_Mouth_burst f fd) (R : MoC K C) (n_len : mg "len" = none) (g_MARK : mg "MARK" = some (.ref a_MARK)) (h_MARK : ∀ H, SqT K H a_MARK (markL.map V.int)) (c_burst_bits : Cal P w K mg base (k + 1) "burst_bits" ["rate"] spBuB) (cw_coded_1_rate : CalW P w K mg base (k + 1) "coded" ["bits", "rate"] 1 ["rate"] (fun vs zs => vs ++ zs) (spCoded K cB cN cR)) (cw_point_1_rate : CalW P w K mg base (k + 1) "point" ["number", "rate"] 1 ["rate"] (fun vs zs => vs ++ zs) (spPoint cN cR))
    (c_Scrambler_push : CalM (L2.CX P w) P w K mg base (k + 1) CC "push" ["self", "bits"] (spPush true CC cB)) (c_Shaper_say : CalM (L2.CX P w) P w K mg base (k + 1) CS "say" ["self", "value"] (spSay K CS cN)) :
    FnOk P w K mg base CX0 (k + 2) f fd ["self"] (spMoBurst K C CS CC) := by
  have sc := sc_Mouth_burst
  refine F.ok sc (fun vs H Q E h => ?_) (fun cdv A_ outer s H vs Q E hr h => ?_)
  · obtain ⟨A, S, rfl, _⟩ := h
    rfl
  · obtain ⟨A, S, rfl, hp, hok, ht, q⟩ := h
    refine ⟨_, (pss_cons (ps_set (i := 1) sc.nd rfl (.inl rfl) (pe_callC c_burst_bits hr (by rfl) (pa_cons (pe_fldK K rfl (pv 0)) pa_nil)))
 (pss_cons (ps_while PassesOwn.never (pt_cmpR op_lt (pe_callB (call_lenK K rfl) (by rfl) n_len PySem.boot_len (pa_cons (pe_fldK K rfl (pv 0)) pa_nil)) (pv 1) (nomark _))
  (pss_one (ps_expr (pe_bmK K rfl PySem.F.plainAttrs_list PySem.F.slot_list_extend PySem.F.type_list_extend (mt_extendTK K rfl) (pe_fldK K rfl (pv 0)) (pa_cons (pe_glob (v := .ref a_MARK) (by rfl) g_MARK rfl) pa_nil)))))
 (pss_cons (ps_set (i := 2) sc.nd rfl (.inl rfl) (pe_methF (pe_fldK K rfl (pv 0)) c_Scrambler_push hr (pa_cons (pe_slice (sl_listK K rfl) (pe_fldK K rfl (pv 0)) po_none (po_some (pv 1))) pa_nil)))
 (pss_cons (ps_fldK K rfl (pv 0) (pe_slice (sl_listK K rfl) (pe_fldK K rfl (pv 0)) (po_some (pv 1)) po_none))
 (pss_cons (ps_set (i := 3) sc.nd rfl (.inl rfl) (pe_lst pa_nil))
 (pss_cons (ps_for PassesOwn.never rfl (pi_listK K rfl (pe_callWF cw_coded_1_rate hr (by rfl) (pa_cons (pv 2) pa_nil) (pk_cons (pe_fldK K rfl (pv 0)) pk_nil))) (pg_name (i := 4) sc.nd rfl (.inl rfl))
  (pss_one (ps_expr (pe_bmK K rfl PySem.F.plainAttrs_list PySem.F.slot_list_append PySem.F.type_list_append mt_append (pv 3) (pa_cons (pe_methF (pe_fldK K rfl (pv 0)) c_Shaper_say hr (pa_cons (pe_callWF cw_point_1_rate hr (by rfl) (pa_cons (pv 4) pa_nil) (pk_cons (pe_fldK K rfl (pv 0)) pk_nil)) pa_nil)) pa_nil)))))
 (pss_one (ps_ret (pv 3))))))))), ?_⟩
    obtain ⟨rt, ws, past, cells, queue⟩ := S
    obtain ⟨r, dx, sa, sl, st, ca, cl, qa⟩ := A
    have ⟨hrt, hsh, htr, hbits, hlen⟩ := hok
    have hrt : okR rt := hrt
    have hbits : Bits queue := hbits
    have hlen : queue.length ≤ 4000 := hlen
    have ht : SqT K H st (ws.map V.int) := ht
    have hsm : (∀ x ∈ ws, small x) ∧ ws.length ≤ 4 := by
      have htr : trimS ws = ws := htr
      have h1 := hsh.1
      have h2 := hsh.2
      rw [show (⟨rt, ws, past, cells, queue⟩ : MS).ws = ws from rfl, htr] at h1 h2
      exact ⟨h2, h1⟩
    have R0 : Rn K H (tMo C CS CC ⟨r, dx, sa, sl, st, ca, cl, qa⟩ ⟨rt, ws, past, cells, queue⟩).ft [(st, ws.map V.int)] [tO r (.ins C dx (mthF rt sa ca qa)), tSh CS sa sl st past, tSc CC ca cl cells, tL qa (queue.map V.int)] H := (Rn.start hp).know ht
    obtain ⟨h1, h4⟩ := id hrt
    refine ⟨_, rfl, r, C, dx, _, _, rfl, R0.at 0 rfl, R.cls, R.n0, rfl, rt, rfl, hrt, ?_⟩
    refine name_by ?_
    dsimp only
    have eN : (16 * rt) = (((16 * rt.toNat : Nat)) : Int) := by omega
    rw [eN]
    -- marks
    refine seq_by (J := fun σ1 H1 => ∃ y2 y3 y4 : Option V, σ1 = [some (.ref r), some (.int ((16 * rt.toNat : Nat) : Int)), y2, y3, y4] ∧ Rn K H (tMo C CS CC ⟨r, dx, sa, sl, st, ca, cl, qa⟩ ⟨rt, ws, past, cells, queue⟩).ft [(st, ws.map V.int)] [tO r (.ins C dx (mthF rt sa ca qa)), tSh CS sa sl st past, tSc CC ca cl cells, tL qa ((padQ (16 * rt.toNat) queue).map V.int)] H1) ?_ (fun rest => ?_)
    · rintro σ1 H1 ⟨y2, y3, y4, rfl, R1⟩
      have hpl := padQ_len (n := 16 * rt.toNat) queue
      have hpb : Bits (padQ (16 * rt.toNat) queue) := padQ_bits hbits
      obtain ⟨Z, eZ⟩ : ∃ Z, Z = padQ (16 * rt.toNat) queue := ⟨_, rfl⟩
      rw [← eZ] at R1 hpl hpb
      -- pushed
      obtain ⟨⟨dxc, hc⟩, _⟩ : Scr CC ca cl cells H1 := R1.get 2 rfl
      refine ⟨_, rfl, r, C, dx, _, _, rfl, R1.at 0 rfl, R.cls, R.n2, rfl, ca, dxc, _, rfl, hc, rfl, _, rfl, r, C, dx, _, _, rfl, R1.at 0 rfl, R.cls, R.n3, rfl, _, rfl, _, rfl, qa, _, rfl, SqL.of (R1.at 3 rfl), fun p2 np2 => ?_⟩
      rw [show cutV (Z.map V.int) none (some ((16 * rt.toNat : Nat) : Int)) = (Z.take (16 * rt.toNat)).map V.int by rw [cut_to_n, List.map_take]]
      have R2 := R1.newL (xs := (Z.take (16 * rt.toNat)).map V.int) np2
      generalize upd H1 p2 (.lst ((Z.take (16 * rt.toNat)).map V.int)) = H2 at R2 ⊢
      obtain ⟨B, eB⟩ : ∃ B, B = Z.take (16 * rt.toNat) := ⟨_, rfl⟩
      have lB : B.length = 16 * rt.toNat := by rw [eB, List.length_take]; omega
      have bB : Bits B := by rw [eB]; exact bits_take hpb _
      rw [← eB] at R2
      refine ⟨ca, cl, p2, cells, B, rfl, R2.get 3 rfl, R2.at 0 rfl, by omega, (fun _ H3 o l' m3 no eo hl' hsc' nol => ?_), (fun i z hz nz => absurd (bB z (List.mem_of_getElem? hz)) nz)⟩
      have R3 := (R2.up 3 rfl (sc_push (R2.get 3 rfl) m3 no eo hl' hsc' nol)).sel [0, 3, 4, 1, 5] (by decide)
      clear R1 R2 hc np2 m3 no eo hl' hsc' nol
      refine name_by ?_
      dsimp only
      -- the rest
      refine ⟨_, rfl, r, C, dx, _, _, rfl, R3.at 1 rfl, R.cls, R.n3, rfl, _, rfl, _, rfl, qa, _, rfl, SqL.of (R3.at 4 rfl), fun p4 np4 => ?_⟩
      rw [show cutV (Z.map V.int) (some ((16 * rt.toNat : Nat) : Int)) none = (Z.drop (16 * rt.toNat)).map V.int by rw [cut_from_n, List.map_drop]]
      have R4 := R3.newL (xs := (Z.drop (16 * rt.toNat)).map V.int) np4
      generalize upd H3 p4 (.lst ((Z.drop (16 * rt.toNat)).map V.int)) = H4 at R4 ⊢
      refine ⟨_, rfl, r, C, dx, _, rfl, R4.at 2 rfl, R.cls, R.n3, (by show 4 < 1000; decide), ?_⟩
      have e4 : putF "queue" (.ref p4) (mthF rt sa ca qa) = mthF rt sa ca p4 := rfl
      rw [e4]
      have R5 := (R4.put (o' := .ins C dx (mthF rt sa ca p4)) 2 rfl).sel [2, 0, 3, 4, 1] (by decide)
      generalize upd H4 r (.ins C dx (mthF rt sa ca p4)) = H5 at R5 ⊢
      clear R3 R4 np4
      -- the tones
      refine ⟨Nat.zero_le _, fun tl ntl => ?_⟩
      have R6 := R5.newL (xs := []) ntl
      generalize upd H5 tl (.lst []) = H6 at R6 ⊢
      clear R5 ntl
      refine name_by ?_
      dsimp only
      obtain ⟨O, eO⟩ : ∃ O, O = scO true cells B := ⟨_, rfl⟩
      rw [← eO] at R6
      have lO : O.length = 16 * rt.toNat := by rw [eO, scO_len, lB]
      have bO : Bits O := by rw [eO]; exact scO_bits true B cells
      have mO : O.length % rt.toNat = 0 := by rw [lO]; exact Nat.mul_mod_left 16 rt.toNat
      refine ⟨_, rfl, _, rfl, r, C, dx, _, _, rfl, R6.at 2 rfl, R.cls, R.n0, rfl, rfl, rfl, o, O, rt, rfl, SqL.of (R6.at 1 rfl), by omega, (fun _ _ _ H7 p7 s7 np7 ep7 => ?_), (fun _ _ bad => absurd mO bad), (fun _ i z hz nz => absurd (bO z (List.mem_of_getElem? hz)) nz), (fun no => absurd hrt no)⟩
      have R7 := R6.newS s7 np7 ep7
      clear R6 s7 np7 ep7
      have okn : okR ((rt.toNat : Nat) : Int) := by rw [show ((rt.toNat : Nat) : Int) = rt by omega]; exact hrt
      have hpts := codeL_pts okn bO
      have lcs := codeL_leP (by omega) mO
      obtain ⟨cs, ecs⟩ : ∃ cs, cs = codeL rt.toNat O := ⟨_, rfl⟩
      rw [← ecs] at R7 hpts lcs
      rw [show ((rt.toNat : Nat) : Int) = rt by omega] at hpts
      have hv : ∀ c ∈ cs, fold (pointI c rt) = pointI c rt := fun c hc => fold_pointI hrt (hpts c hc).1 (hpts c hc).2
      refine ⟨p7, rfl, ⟨_, SqL.of (R7.at 0 rfl)⟩, for_list (K := K) (a := p7) (xs := cs.map V.int) (fun i σ H' => ∃ (y4 : Option V) (l2 : Addr), σ = [some (.ref r), some (.int ((16 * rt.toNat : Nat) : Int)), some (.ref o), some (.ref tl), y4] ∧ Rn K H (tMo C CS CC ⟨r, dx, sa, sl, st, ca, cl, qa⟩ ⟨rt, ws, past, cells, queue⟩).ft [(st, ws.map V.int)] [tL p7 (cs.map V.int), tL tl ((sayL ws past ((cs.take i).map fun c => pointI c rt)).map V.int), tL o (O.map V.int), tO r (.ins C dx (mthF rt sa ca p4)), tSh CS sa l2 st (sayP ws past ((cs.take i).map fun c => pointI c rt)), tSc CC ca l' (scC true cells B), tL p4 ((Z.drop (16 * rt.toNat)).map V.int)] H') ⟨y4, sl, rfl, R7.sel [0, 1, 2, 3, 4, 5, 6] (by decide)⟩ (fun i σ H' _ h => by obtain ⟨_, _, _, h⟩ := h; exact SqL.of (h.at 0 rfl)) ?_ ?_⟩
      · rintro i x σ H8 hx ⟨y4, l2, rfl, R8⟩
        obtain ⟨c, hc, rfl⟩ := getI hx
        have hcm := hpts c (List.mem_of_getElem? hc)
        have hi : i < cs.length := (List.getElem?_eq_some_iff.mp hc).1
        have em : (cs.map fun c => pointI c rt)[i]? = some (pointI c rt) := by rw [List.getElem?_map, hc]; rfl
        obtain ⟨⟨dxs, hs⟩, _⟩ : Shp CS sa l2 st _ H8 := R8.get 4 rfl
        refine ⟨_, rfl, .inl ⟨rfl, _, SqL.of (R8.at 1 rfl)⟩, _, rfl, r, C, dx, _, _, rfl, R8.at 3 rfl, R.cls, R.n1, rfl, sa, dxs, _, rfl, hs, rfl, _, rfl, _, rfl, r, C, dx, _, _, rfl, R8.at 3 rfl, R.cls, R.n0, rfl, rfl, rfl, c, rt, rfl, (fun _ _ _ => ?_), (fun _ bad => by omega), (fun no => absurd hrt no)⟩
        refine ⟨sa, l2, st, _, ws, pointI c rt, rfl, R8.get 4 rfl, R8.tup 0 rfl, hsm.1, by omega, (fun _ H9 l3 m9 nl9 hs9 => ?_), (fun no => absurd (hv c (List.mem_of_getElem? hc)) no)⟩
        have R9 := (R8.up 4 rfl (sh_say (R8.get 4 rfl) m9 nl9 hs9)).sel [1, 2, 3, 4, 0, 5, 6] (by decide)
        refine ⟨tl, _, _, rfl, rfl, R9.at 1 rfl, ?_, ?_⟩
        · rw [List.length_map, sayL_len, List.length_map, List.length_take]
          exact sz4l (by omega)
        have R10 := (R9.put (o' := .lst ((sayL ws past ((cs.take i).map fun c => pointI c rt)).map V.int ++ [.int (toneOf ws (sayP ws past ((cs.take i).map fun c => pointI c rt)) (pointI c rt))])) 1 rfl).sel [1, 0, 2, 3, 4, 5, 6] (by decide)
        refine ⟨_, l3, rfl, ?_⟩
        have e1 : (cs.take (i + 1)).map (fun c => pointI c rt) = (cs.map fun c => pointI c rt).take (i + 1) := by rw [List.map_take]
        have e2 : (cs.take i).map (fun c => pointI c rt) = (cs.map fun c => pointI c rt).take i := by rw [List.map_take]
        rw [e1, sayL_more em, sayP_more em, ← e2, List.map_append]
        exact R10
      · rintro σ H8 ⟨y4, l2, rfl, R8⟩
        rw [List.length_map, List.take_length] at R8
        have R9 := R8.sel [1, 3, 4, 5, 6] (by decide)
        refine ⟨_, rfl, q _ ⟨r, dx, sa, l2, st, ca, l', p4⟩ tl rfl rfl ?_⟩
        have eb : B = (padQ (buN ⟨rt, ws, past, cells, queue⟩) queue).take (buN ⟨rt, ws, past, cells, queue⟩) := by rw [eB, eZ]; rfl
        have eo : O = buB ⟨rt, ws, past, cells, queue⟩ := by rw [eO, eb]; rfl
        have ev : (cs.map fun c => pointI c rt) = buV ⟨rt, ws, past, cells, queue⟩ := by rw [ecs, eo]; rfl
        have es : buS ⟨rt, ws, past, cells, queue⟩ = ⟨rt, ws, sayP ws past (cs.map fun c => pointI c rt), scC true cells B, Z.drop (16 * rt.toNat)⟩ := by rw [ev, eb, eZ]; rfl
        have et : buT ⟨rt, ws, past, cells, queue⟩ = sayL ws past (cs.map fun c => pointI c rt) := by rw [ev]; rfl
        rw [es, et]
        exact R9.out
    · refine while_w (fun σ H' => ∃ (j : Nat), σ = [some (.ref r), some (.int ((16 * rt.toNat : Nat) : Int)), none, none, none] ∧ padQ (16 * rt.toNat) (queue ++ (List.replicate j markL).flatten) = padQ (16 * rt.toNat) queue ∧ (queue ++ (List.replicate j markL).flatten).length ≤ 4100 ∧ Rn K H (tMo C CS CC ⟨r, dx, sa, sl, st, ca, cl, qa⟩ ⟨rt, ws, past, cells, queue⟩).ft [(st, ws.map V.int)] [tO r (.ins C dx (mthF rt sa ca qa)), tSh CS sa sl st past, tSc CC ca cl cells, tL qa ((queue ++ (List.replicate j markL).flatten).map V.int)] H') (fun _ H' => match H' qa with | some (.lst l) => 1000 - l.length | _ => 0) ⟨0, rfl, by rw [show (List.replicate 0 markL).flatten = ([] : List Int) from rfl, List.append_nil], by rw [show (List.replicate 0 markL).flatten = ([] : List Int) from rfl, List.append_nil]; omega, by rw [show (List.replicate 0 markL).flatten = ([] : List Int) from rfl, List.append_nil]; exact R0⟩ ?_
      rintro σ H1 ⟨j, rfl, ej, lj, R1⟩
      refine ⟨_, rfl, r, C, dx, _, _, rfl, R1.at 0 rfl, R.cls, R.n3, rfl, qa, _, rfl, .inl (SqL.of (R1.at 3 rfl)), _, rfl, _, _, rfl, rfl, _, rfl, ?_⟩
      refine ite2 (fun e => ?_) (fun e => ?_)
      · have e : (queue ++ (List.replicate j markL).flatten).length < 16 * rt.toNat := by
          have := of_decide_eq_true e
          rw [List.length_map] at this
          omega
        refine ⟨wN _ _ _, wN_ok, ?_⟩
        refine ⟨_, rfl, r, C, dx, _, _, rfl, R1.at 0 rfl, R.cls, R.n3, rfl, .inl ⟨rfl, _, SqL.of (R1.at 3 rfl)⟩, qa, a_MARK, _, markL.map V.int, rfl, rfl, R1.at 3 rfl, h_MARK H1, by rw [List.length_map]; exact Nat.le_trans (show (queue ++ (List.replicate j markL).flatten).length + 8 ≤ 10000 by omega) (by decide), ?_⟩
        have eq1 : (queue ++ (List.replicate j markL).flatten).map V.int ++ markL.map V.int = (queue ++ (List.replicate (j + 1) markL).flatten).map V.int := by
          rw [← List.map_append, List.append_assoc]
          congr 2
          rw [List.replicate_succ', List.flatten_append]
          rfl
        rw [eq1]
        have R2 := (R1.put (o' := .lst ((queue ++ (List.replicate (j + 1) markL).flatten).map V.int)) 3 rfl).sel [1, 2, 3, 0] (by decide)
        have el : (queue ++ (List.replicate (j + 1) markL).flatten).length = (queue ++ (List.replicate j markL).flatten).length + 8 := by
          rw [List.length_append, List.length_append, marks_len, marks_len]
          omega
        have eq2 : queue ++ (List.replicate (j + 1) markL).flatten = queue ++ (List.replicate j markL).flatten ++ markL := by
          rw [List.append_assoc]
          congr 1
          rw [List.replicate_succ', List.flatten_append]
          rfl
        refine ⟨⟨j + 1, rfl, ?_, by omega, R2⟩, ?_⟩
        · rw [eq2, padQ_more e, ej]
        · show (match (upd H1 qa (.lst ((queue ++ (List.replicate (j + 1) markL).flatten).map V.int))) qa with | some (.lst l) => 1000 - l.length | _ => 0) < (match H1 qa with | some (.lst l) => 1000 - l.length | _ => 0)
          rw [upd_same, R1.at 3 rfl]
          dsimp only
          rw [List.length_map, List.length_map, el]
          exact Nat.sub_lt_sub_left (by omega) (by omega)
      · have e : 16 * rt.toNat ≤ (queue ++ (List.replicate j markL).flatten).length := by
          have : ¬ (((queue ++ (List.replicate j markL).flatten).map V.int).length : Int) < ((16 * rt.toNat : Nat) : Int) := fun y => e (decide_eq_true y)
          rw [List.length_map] at this
          omega
        refine rest _ _ ⟨none, none, none, rfl, ?_⟩
        rw [← ej, padQ_zero e]
        exact R1
/-! ### ears as objects -/
instance (C r l bh : Addr) (S : LS) : NT (tRd C r l bh S) := ⟨fun H h a ha o e => by
  obtain ⟨⟨⟨dx, e1⟩, e2, e3⟩, _, h5⟩ : RdP C r l bh S H := h
  have ha : a ∈ [r, l, bh] := ha
  rcases in3 ha with rfl | rfl | rfl
  · rw [e1] at e
    cases e
    trivial
  · rw [e2] at e
    cases e
    trivial
  · by_cases z : S.en < 0
    · rw [h5 z, e1] at e
      cases e
      trivial
    · rw [(e3 (by omega)).1] at e
      cases e
      trivial⟩
theorem rd_take {C r l bh l' bh' pl : Addr} {ps : List Addr} {S S' : LS} {rows : List (List Int)} {H H' : Hp} (h : RdP C r l bh S H) (m : MvF [r, bh] H H') (hf : ∀ p ∈ [r, l', bh'], p ∈ [r, l, bh] ∨ H p = none) (h' : RdP C r l' bh' S' H') (e : H' pl = some (.lst (ps.map L2.V.ref))) (hr : RowsAt H' ps rows) (hn : ∀ p ∈ pl :: ps, H p = none ∧ p ∉ [r, l', bh']) (hnp : pl ∉ ps) : Up (tRd C r l bh S) [tRows pl ps rows, tRd C r l' bh' S'] H H' :=
  up_mvN (T := tRd C r l bh S) (T' := tRd C r l' bh' S') (N := tRows pl ps rows) h m (fun a ha => by
    rcases in2 ha with rfl | rfl
    · exact .head _
    · exact .tail _ (.tail _ (.head _))) h' hf ⟨e, hr, hnp⟩ hn
theorem rd_forget {C r l bh l' : Addr} {S : LS} {H H' : Hp} (h : RdP C r l bh S H) (m : Mv r H H') (nl : H l' = none) (h' : Rdr C r l' bh ⟨[], -1, S.hurt⟩ H') : Up (tRd C r l bh S) [tRd C r l' r ⟨[], -1, S.hurt⟩] H H' := by
  have al : ∀ a, H' a = none → H a = none := fun a ha => by
    cases e : H a with
    | none => rfl
    | some o =>
      by_cases z : a = r
      · obtain ⟨dx, h1⟩ := h'.ins
        rw [z, h1] at ha
        cases ha
      · rw [m a o z e] at ha
        cases ha
  have hp : RdP C r l' r ⟨[], -1, S.hurt⟩ H' := ⟨⟨h'.ins, h'.last, fun z => absurd z (by show ¬ (0 : Int) ≤ -1; decide)⟩, ⟨bits_nil, .inl rfl⟩, fun _ => rfl⟩
  refine up_mv (T := tRd C r l bh S) (T' := tRd C r l' r ⟨[], -1, S.hurt⟩) (F := [r]) h ⟨fun a o n e => m a o (fun z => n (by rw [z]; exact .head _)) e, al⟩ (fun a ha => by rw [in1 ha]; exact .head _) hp (fun a ha => ?_)
  have ha : a ∈ [r, l', r] := ha
  rcases in3 ha with rfl | rfl | rfl
  · exact .inl (.head _)
  · exact .inr nl
  · exact .inl (.head _)
theorem rd_new {C r dx l0 : Addr} {H : Hp} (nr : H r = none) (nd : H dx = none) (nl0 : upd (upd H dx (.own r)) r (.ins C dx []) l0 = none) :
    Same H (upd (upd (upd (upd H dx (.own r)) r (.ins C dx [])) l0 (.lst [])) r (.ins C dx (rdF l0 .non 0))) ∧ RdP C r l0 r ⟨[], -1, 0⟩ (upd (upd (upd (upd H dx (.own r)) r (.ins C dx [])) l0 (.lst [])) r (.ins C dx (rdF l0 .non 0))) ∧ H l0 = none ∧ l0 ≠ r := by
  have nr0 : l0 ≠ r := by
    intro z
    rw [z, upd_same] at nl0
    cases nl0
  have n0 : H l0 = none := by
    rw [upd_ne nr0] at nl0
    by_cases y : l0 = dx
    · rw [y, upd_same] at nl0
      cases nl0
    · rwa [upd_ne y] at nl0
  refine ⟨fun a o e => ?_, ⟨⟨⟨dx, upd_same⟩, ?_, fun z => absurd z (by decide)⟩, ⟨bits_nil, .inl rfl⟩, fun _ => rfl⟩, n0, nr0⟩
  · rw [upd_ne (ne_of_none e nr), upd_ne (ne_of_none e n0), upd_ne (ne_of_none e nr), upd_ne (ne_of_none e nd)]
    exact e
  · rw [upd_ne nr0, upd_same]
    rfl
theorem rd_made {C r dx l0 : Addr} {H : Hp} (nr : H r = none) (nd : H dx = none) (nl0 : upd (upd H dx (.own r)) r (.ins C dx []) l0 = none) : Up (tG []) [tRd C r l0 r ⟨[], -1, 0⟩] H (upd (upd (upd (upd H dx (.own r)) r (.ins C dx [])) l0 (.lst [])) r (.ins C dx (rdF l0 .non 0))) := by
  obtain ⟨s, h, n0, n1⟩ := rd_new nr nd nl0
  refine up_newTh (N := tRd C r l0 r ⟨[], -1, 0⟩) s h (fun a ha => ?_)
  have ha : a ∈ [r, l0, r] := ha
  rcases in3 ha with rfl | rfl | rfl
  · exact nr
  · exact n0
  · exact nr
structure ErC (K : PySem.W.Frag) (C : Addr) : Prop where
  cls : Cls K C
  n0 : NoAttr K C "speed"
  n1 : NoAttr K C "taps"
  n2 : NoAttr K C "descrambler"
  n3 : NoAttr K C "reader"
  n4 : NoAttr K C "tones"
  n5 : NoAttr K C "unsure"
structure EA where
  r : Addr
  dx : Addr
  t : Addr
  d : Addr
  dl : Addr
  rd : Addr
  rl : Addr
  rb : Addr
  tn : Addr
structure ES where
  rate : Int
  ws : List Int
  cells : List Int
  R : LS
  tones : List Int
  unsure : Nat
abbrev earF (rate : Int) (t d rd tn : Addr) (u : Int) : List (Str × L2.V) := [(("speed" : Str), .int rate), (("taps" : Str), .ref t), (("descrambler" : Str), .ref d), (("reader" : Str), .ref rd), (("tones" : Str), .ref tn), (("unsure" : Str), .int u)]
abbrev earTs (CE CD CR : Addr) (A : EA) (S : ES) : List Th := [tO A.r (.ins CE A.dx (earF S.rate A.t A.d A.rd A.tn (S.unsure : Int))), tSc CD A.d A.dl S.cells, tRd CR A.rd A.rl A.rb S.R, tL A.tn (S.tones.map L2.V.int)]
abbrev tEr (CE CD CR : Addr) (A : EA) (S : ES) : Th := tG (earTs CE CD CR A S)
structure ES.Ok (S : ES) : Prop where
  rate : okR S.rate
  sh : okSh S.ws
  tr : trimS S.ws = S.ws
  seen : S.R.seen.length ≤ 8000
def spErI (K : PySem.W.Frag) (CE CD CR cR cT cN : Addr) : Sp := fun vs H Q E => ∃ (r dx a : Addr) (k : Bool) (ws : List Int) (rate seed : Int), vs = [.ref r, .ref a, .int rate, .int seed] ∧ H r = some (.ins CE dx []) ∧ SqK K k H a (ws.map L2.V.int) ∧ ws.length ≤ 10000 ∧
  (okR rate → okSh ws → 0 ≤ seed → seed < 128 → ∀ (H' : Hp) (A : EA), A.r = r → A.dx = dx → Up (tG [tO r (.ins CE dx [])]) (earTs CE CD CR A ⟨rate, trimS ws, wr 7 seed, ⟨[], -1, 0⟩, z4, 0⟩) H H' → SqT K H' A.t ((trimS ws).map L2.V.int) → Q .non H') ∧
  (¬ okR rate → RefM cR "BadRate" r H E) ∧ (okR rate → ¬ okSh ws → RefM cT "BadTaps" r H E) ∧ (okR rate → okSh ws → (seed < 0 ∨ 128 ≤ seed) → RefM cN "BadCount" r H E)
/-- the own tones behind so many beats; the values heard -/
def erP : List Int → List (Int × Int) → List Int
  | ts, [] => ts
  | ts, (_, o) :: r => erP (o :: ts.take 3) r
def erV (ws : List Int) : List Int → List (Int × Int) → List Int
  | _, [] => []
  | ts, (h, o) :: r => fold (h - dotL ws (o :: ts.take 3)) :: erV ws (o :: ts.take 3) r
theorem erP_app : ∀ (us vs : List (Int × Int)) (ts : List Int), erP ts (us ++ vs) = erP (erP ts us) vs
  | [], vs, ts => rfl
  | (_, o) :: us, vs, ts => erP_app us vs _
theorem erV_app (ws : List Int) : ∀ (us vs : List (Int × Int)) (ts : List Int), erV ws ts (us ++ vs) = erV ws ts us ++ erV ws (erP ts us) vs
  | [], vs, ts => rfl
  | (h, o) :: us, vs, ts => congrArg (fold (h - dotL ws (o :: ts.take 3)) :: ·) (erV_app ws us vs _)
theorem erV_len (ws : List Int) : ∀ (vs : List (Int × Int)) (ts : List Int), (erV ws ts vs).length = vs.length
  | [], ts => rfl
  | (h, o) :: vs, ts => congrArg (· + 1) (erV_len ws vs _)
theorem take_moreP {α : Type} {l : List α} {i : Nat} {x : α} (h : l[i]? = some x) : l.take (i + 1) = l.take i ++ [x] := by
  rw [List.take_succ, h]
  rfl
theorem erP_more {ts : List Int} {l : List (Int × Int)} {i : Nat} {h o : Int} (e : l[i]? = some (h, o)) : erP ts (l.take (i + 1)) = o :: (erP ts (l.take i)).take 3 := by
  rw [take_moreP e, erP_app]
  rfl
theorem erV_more {ws ts : List Int} {l : List (Int × Int)} {i : Nat} {h o : Int} (e : l[i]? = some (h, o)) : erV ws ts (l.take (i + 1)) = erV ws ts (l.take i) ++ [fold (h - dotL ws (o :: (erP ts (l.take i)).take 3))] := by
  rw [take_moreP e, erV_app]
  rfl
/-- what an ear makes of a burst -/
def heB (S : ES) (hs os : List Int) : List Int := hpRow S.rate.toNat (erV S.ws S.tones (hs.zip os))
def heC (S : ES) (hs os : List Int) : List Int := (scO false S.cells (heB S hs os)).drop S.unsure
def heR (S : ES) (hs os : List Int) : List (List Int) := (hall S.R (heC S hs os)).2
def heS (S : ES) (hs os : List Int) : ES := ⟨S.rate, S.ws, scC false S.cells (heB S hs os), (hall S.R (heC S hs os)).1, erP S.tones (hs.zip os), 0⟩
def spHear (K : PySem.W.Frag) (CE CD CR cN : Addr) : Sp := fun vs H Q E => ∃ (A : EA) (S : ES) (ha oa : Addr) (hs os : List Int), vs = [.ref A.r, .ref ha, .ref oa] ∧ (tEr CE CD CR A S).P H ∧ S.Ok ∧ SqT K H A.t (S.ws.map L2.V.int) ∧ SqL K H ha (hs.map L2.V.int) ∧ SqL K H oa (os.map L2.V.int) ∧ ha ∉ (tEr CE CD CR A S).ft ∧ oa ∉ (tEr CE CD CR A S).ft ∧
  (hs.length = 18 → os.length = 18 → ∀ (H' : Hp) (A' : EA) (pl : Addr) (ps : List Addr), A'.r = A.r → A'.t = A.t → Up (tEr CE CD CR A S) (tRows pl ps (heR S hs os) :: earTs CE CD CR A' (heS S hs os)) H H' → Q (.ref pl) H') ∧
  ((hs.length ≠ 18 ∨ os.length ≠ 18) → Ref0 cN "BadNoise" H E)
def spDeaf (K : PySem.W.Frag) (CE CD CR cN : Addr) : Sp := fun vs H Q E => ∃ (A : EA) (S : ES) (oa : Addr) (os : List Int), vs = [.ref A.r, .ref oa] ∧ (tEr CE CD CR A S).P H ∧ SqL K H oa (os.map L2.V.int) ∧ oa ∉ (tEr CE CD CR A S).ft ∧
  (os.length = 18 → ∀ (H' : Hp) (A' : EA), A'.r = A.r → A'.t = A.t → Up (tEr CE CD CR A S) (earTs CE CD CR A' ⟨S.rate, S.ws, S.cells, ⟨[], -1, S.R.hurt⟩, erP S.tones (os.zip os), 7⟩) H H' → Q .non H') ∧
  (os.length ≠ 18 → Ref0 cN "BadNoise" H E)
def spErHurt (CE CD CR : Addr) : Sp := fun vs H Q _ => ∃ (A : EA) (S : ES), vs = [.ref A.r] ∧ (tEr CE CD CR A S).P H ∧ Q (.int (S.R.hurt : Int)) H
def spErTwin (K : PySem.W.Frag) (CE CD CR : Addr) : Sp := fun vs H Q _ => ∃ (A : EA) (S : ES), vs = [.ref A.r] ∧ (tEr CE CD CR A S).P H ∧ S.Ok ∧ SqT K H A.t (S.ws.map L2.V.int) ∧
  ∀ (H' : Hp) (A' : EA), Up (tG []) (earTs CE CD CR A' S) H H' → SqT K H' A'.t (S.ws.map L2.V.int) → Q (.ref A'.r) H'
def spCkB (K : PySem.W.Frag) (cN : Addr) : Sp := fun vs H Q E => ∃ (a : Addr) (ns : List Int), vs = [.ref a] ∧ SqL K H a (ns.map L2.V.int) ∧ (ns.length = 18 → Q .non H) ∧ (ns.length ≠ 18 → Ref0 cN "BadNoise" H E)
theorem ite_no {c : Prop} [Decidable c] {A B : Prop} (h : ¬ c) (q : B) : if c then A else B := by
  rw [if_neg h]
  exact q
theorem sc_check_burst : FnScope ["numbers"] ["numbers"] (defScope s_check_burst) := ⟨rfl, rfl, rfl, by decide +kernel, rfl, by decide +kernel, by decide +kernel⟩
theorem ok_check_burst {f cN : Addr} {fd : FuncData} {k : Nat} {t18 : Tok} (F : Fun K "check_burst" "check_burst" s_check_burst f fd) (n_len : mg "len" = none) (g_BURST : mg "BURST" = some (.int 18 t18)) (x_BadNoise : XcOk P w K mg base k "BadNoise" cN (spIni0 K cN "BadNoise")) : FnOk P w K mg base (L2.CX P w) (k + 2) f fd ["numbers"] (spCkB K cN) := by
  have sc := sc_check_burst
  refine F.okX sc (fun vs H Q E h => ?_) (fun cdv A outer s H vs Q E hr h => ?_)
  · obtain ⟨a, ns, rfl, _⟩ := h
    rfl
  · obtain ⟨a, ns, rfl, hS, q, qe⟩ := h
    refine ⟨_, (pss_one (ps_if (pt_cmpR op_ne (pe_callB (call_lenK K rfl) (by rfl) n_len PySem.boot_len (pa_cons (pv 0) pa_nil)) (pe_glob (v := .int 18) (by rfl) g_BURST ⟨_, rfl⟩) (nomark _))
  (pss_one (ps_raise rfl (takes_of rfl rfl rfl rfl) (pmk_c0 x_BadNoise hr (by rfl))))
  pss_nil)), ?_⟩
    refine ⟨_, rfl, a, _, rfl, .inl hS, rfl, _, rfl, ?_⟩
    rw [List.length_map]
    refine ite2 (fun e => ?_) (fun e => ?_)
    · exact mk_inner0 (qe fun z => by
        rw [decide_eq_true (show V.int (ns.length : Int) = V.int 18 by rw [z]; rfl)] at e
        cases e)
    · refine q (Decidable.byContradiction fun z => e ?_)
      rw [decide_eq_false (fun y => z (by have := V.int.inj y; omega))]
      rfl
theorem sc_Ear___init__ : FnScope ["self", "echo", "rate", "seed"] ["self", "echo", "rate", "seed"] (defScope m_Ear___init__) := ⟨rfl, rfl, rfl, by decide +kernel, rfl, by decide +kernel, by decide +kernel⟩
theorem ok_Ear___init__ {f C CD CR cR cT cN : Addr} {fd : FuncData} {k : Nat} {dvs : List V} {kws : List (Str × V)} (F : FunD K "__init__" "Ear.__init__" (defArgs m_Ear___init__) (defBody m_Ear___init__) (defScope m_Ear___init__) dvs kws f fd) (R : ErC K C) (c_check_rate : CalX P w K mg base (k + 1) "check_rate" ["rate"] (spCR cR)) (c_right_shares : CalX P w K mg base (k + 1) "right_shares" ["numbers"] (spRS K cT)) (cnw_Descrambler : CalNW P w K mg base k "Descrambler" CD ["self", "seed"] ["seed"] (fun vs zs => vs ++ zs) (spSi CD cN)) (c_Reader : CalN P w K mg base k "Reader" CR ["self"] (spRi CR)) (c_no_tones : Cal P w K mg base (k + 1) "no_tones" [] spNT) :
    FnOk P w K mg base (L2.CX P w) (k + 2) f fd ["self", "echo", "rate", "seed"] (spErI K C CD CR cR cT cN) := by
  have sc := sc_Ear___init__
  refine F.ok sc (fun vs H Q E h => ?_) (fun cdv A outer s H vs Q E hr h => ?_)
  · obtain ⟨r, dx, a, k, ws, rate, seed, rfl, _⟩ := h
    rfl
  · obtain ⟨r, dx, a, kk, ws, rate, seed, rfl, hins, hS, hl, q, qr, qt, qn⟩ := h
    refine ⟨_, (pss_cons (ps_expr (pe_callP c_check_rate hr (passes_call (takes_of rfl rfl rfl rfl) (fun _ _ _ _ h => h)) (by rfl) (pa_cons (pv 2) pa_nil)))
 (pss_cons (ps_fldK K rfl (pv 0) (pv 2))
 (pss_cons (ps_fldK K rfl (pv 0) (pe_callP c_right_shares hr (passes_call (takes_of rfl rfl rfl rfl) (fun _ _ _ _ h => h)) (by rfl) (pa_cons (pv 1) pa_nil)))
 (pss_cons (ps_fldK K rfl (pv 0) (pe_makeW cnw_Descrambler hr (passes_call (takes_of rfl rfl rfl rfl) (fun _ _ _ _ h => h)) (by rfl) (pk_cons (pv 3) pk_nil)))
 (pss_cons (ps_fldK K rfl (pv 0) (pe_makeC0 c_Reader hr (by rfl)))
 (pss_cons (ps_fldK K rfl (pv 0) (pe_callC0 c_no_tones hr (by rfl)))
 (pss_one (ps_fldK K rfl (pv 0) pe_int)))))))), ?_⟩
    have R0 : Rn K H (tG [tO r (.ins C dx [])]).ft [] [tO r (.ins C dx [])] H := Rn.start (Hs.nil0.cons ⟨hins, trivial⟩ (fun j y hj => by cases hj))
    refine ⟨_, rfl, rate, rfl, (fun ok => ?_), (fun no H' d s nd ed => qr no H' d (.of s) nd ed)⟩
    have q := q ok
    have qt := qt ok
    have qn := qn ok
    refine ⟨_, rfl, _, rfl, r, C, dx, _, rfl, R0.at 0 rfl, R.cls, R.n0, (by show 0 < 1000; decide), ?_⟩
    have e1 : putF "speed" (.int rate) ([] : List (Str × V)) = [(("speed" : Str), .int rate)] := rfl
    rw [e1]
    have R1 := R0.put (o' := .ins C dx [(("speed" : Str), .int rate)]) 0 rfl
    have hS1 : SqK K kk (upd H r (.ins C dx [(("speed" : Str), .int rate)])) a (ws.map V.int) := sqK_updI hins hS
    generalize upd H r (.ins C dx [(("speed" : Str), .int rate)]) = H1 at R1 hS1 ⊢
    clear hS
    refine ⟨_, rfl, a, kk, ws, rfl, hS1, hl, (fun ok2 H2 t s2 ht => ?_), (fun no H' d s nd ed => qt no H' d (R1.mvs s) (R1.free nd) ed)⟩
    have q := q ok2
    have qn := qn ok2
    have R2 := (R1.same s2).know ht
    clear R1 hS1 s2 ht
    refine ⟨_, rfl, r, C, dx, _, rfl, R2.at 0 rfl, R.cls, R.n1, (by show 1 < 1000; decide), ?_⟩
    have e2 : putF "taps" (.ref t) [(("speed" : Str), V.int rate)] = [(("speed" : Str), .int rate), (("taps" : Str), .ref t)] := rfl
    rw [e2]
    have R3 := R2.put (o' := .ins C dx [(("speed" : Str), .int rate), (("taps" : Str), .ref t)]) 0 rfl
    generalize upd H2 r (.ins C dx [(("speed" : Str), .int rate), (("taps" : Str), .ref t)]) = H3 at R3 ⊢
    clear R2
    have up : ∀ {y dy : Addr} {o o' : HO} {H : Hp}, H y = none → H dy = none → Same H (upd (upd H dy o) y o') := fun ny ndy => fun a u e => by rw [upd_ne (ne_of_none e ny), upd_ne (ne_of_none e ndy)]; exact e
    refine ⟨_, rfl, rfl, rfl, fun y dy ny ndy ney => ?_⟩
    refine ⟨y, dy, seed, rfl, upd_same, (fun h0 h1 H4 cl m4 ncl e41 e42 => ⟨rfl, ?_⟩), (fun no H' d s nd ed => qn no H' d (R3.mvs ((up ny ndy).trans s)) (R3.free (made_none nd)) ed)⟩
    have s4 := made_same ny ndy m4
    have hsc : Scr CD y cl (wr 7 seed) H4 := ⟨⟨dy, e41⟩, e42, cells_wr seed⟩
    have R4 := R3.newTh (N := tSc CD y cl (wr 7 seed)) s4 hsc (fun a ha => by
      rcases in2u ha with rfl | rfl
      · exact ny
      · exact made_none ncl)
    have q := q h0 h1
    clear R3 m4 s4 ncl ny ndy ney e41 e42 hsc
    refine ⟨_, rfl, r, C, dx, _, rfl, R4.at 1 rfl, R.cls, R.n2, (by show 2 < 1000; decide), ?_⟩
    have e3 : putF "descrambler" (.ref y) [(("speed" : Str), V.int rate), (("taps" : Str), .ref t)] = [(("speed" : Str), .int rate), (("taps" : Str), .ref t), (("descrambler" : Str), .ref y)] := rfl
    rw [e3]
    have R5 := R4.put (o' := .ins C dx [(("speed" : Str), .int rate), (("taps" : Str), .ref t), (("descrambler" : Str), .ref y)]) 1 rfl
    generalize upd H4 r (.ins C dx [(("speed" : Str), .int rate), (("taps" : Str), .ref t), (("descrambler" : Str), .ref y)]) = H5 at R5 ⊢
    clear R4
    refine fun z dz nz ndz nez => ⟨z, dz, rfl, upd_same, fun l0 nl0 => ⟨rfl, ?_⟩⟩
    have R6 := R5.upN (rd_made (C := CR) nz ndz nl0)
    generalize upd (upd (upd (upd H5 dz (.own z)) z (.ins CR dz [])) l0 (.lst [])) z (.ins CR dz (rdF l0 .non 0)) = H6 at R6 ⊢
    clear R5 nz ndz nez nl0
    refine ⟨_, rfl, r, C, dx, _, rfl, R6.at 1 rfl, R.cls, R.n3, (by show 3 < 1000; decide), ?_⟩
    have e4 : putF "reader" (.ref z) [(("speed" : Str), V.int rate), (("taps" : Str), .ref t), (("descrambler" : Str), .ref y)] = [(("speed" : Str), .int rate), (("taps" : Str), .ref t), (("descrambler" : Str), .ref y), (("reader" : Str), .ref z)] := rfl
    rw [e4]
    have R7 := R6.put (o' := .ins C dx [(("speed" : Str), .int rate), (("taps" : Str), .ref t), (("descrambler" : Str), .ref y), (("reader" : Str), .ref z)]) 1 rfl
    generalize upd H6 r (.ins C dx [(("speed" : Str), .int rate), (("taps" : Str), .ref t), (("descrambler" : Str), .ref y), (("reader" : Str), .ref z)]) = H7 at R7 ⊢
    clear R6
    refine ⟨rfl, fun H8 l8 s8 n8 e8 => ?_⟩
    have R8 := R7.newS s8 n8 e8
    refine ⟨_, rfl, r, C, dx, _, rfl, R8.at 1 rfl, R.cls, R.n4, (by show 4 < 1000; decide), ?_⟩
    have e5 : putF "tones" (.ref l8) [(("speed" : Str), V.int rate), (("taps" : Str), .ref t), (("descrambler" : Str), .ref y), (("reader" : Str), .ref z)] = [(("speed" : Str), .int rate), (("taps" : Str), .ref t), (("descrambler" : Str), .ref y), (("reader" : Str), .ref z), (("tones" : Str), .ref l8)] := rfl
    rw [e5]
    have R9 := R8.put (o' := .ins C dx [(("speed" : Str), .int rate), (("taps" : Str), .ref t), (("descrambler" : Str), .ref y), (("reader" : Str), .ref z), (("tones" : Str), .ref l8)]) 1 rfl
    generalize upd H8 r (.ins C dx [(("speed" : Str), .int rate), (("taps" : Str), .ref t), (("descrambler" : Str), .ref y), (("reader" : Str), .ref z), (("tones" : Str), .ref l8)]) = H9 at R9 ⊢
    clear R7 R8 s8 n8 e8
    refine ⟨_, rfl, r, C, dx, _, rfl, R9.at 0 rfl, R.cls, R.n5, (by show 5 < 1000; decide), ?_⟩
    have e6 : putF "unsure" (.int 0) [(("speed" : Str), V.int rate), (("taps" : Str), .ref t), (("descrambler" : Str), .ref y), (("reader" : Str), .ref z), (("tones" : Str), .ref l8)] = earF rate t y z l8 ((0 : Nat) : Int) := rfl
    rw [e6]
    have R10 := (R9.put (o' := .ins C dx (earF rate t y z l8 ((0 : Nat) : Int))) 0 rfl).sel [0, 3, 2, 1] (by decide)
    exact q _ ⟨r, dx, t, y, cl, z, l0, z, l8⟩ rfl rfl R10.out (R10.tup 0 rfl)
theorem sc_Ear_hear : FnScope ["self", "heard", "own", "values", "number", "tone", "bits", "cost", "clear"] ["self", "heard", "own"] (defScope m_Ear_hear) := ⟨rfl, rfl, rfl, by decide +kernel, rfl, by decide +kernel, by decide +kernel⟩
theorem ok_Ear_hear {f C CD CR cN cB cBd cR cN2 : Addr} {fd : FuncData} {k : Nat} (F : Fun K "hear" "Ear.hear" m_Ear_hear f fd) (R : ErC K C) (n_zip : mg "zip" = none) (c_check_burst : CalX P w K mg base (k + 1) "check_burst" ["numbers"] (spCkB K cN)) (c_with_latest : Cal P w K mg base (k + 1) "with_latest" ["tone", "tones"] (spWL K)) (c_left_behind : Cal P w K mg base (k + 1) "left_behind" ["shares", "tones"] (spLB K)) (c_folded : Cal P w K mg base (k + 1) "folded" ["number"] spFolded) (cw_heard_path_1_rate : CalW P w K mg base (k + 1) "heard_path" ["heard", "rate"] 1 ["rate"] (fun vs zs => vs ++ zs) (spHP K cN2 cR)) (c_Descrambler_push : CalM (L2.CX P w) P w K mg base (k + 1) CD "push" ["self", "bits"] (spPush false CD cBd)) (c_Reader_take : CalM (L2.CX P w) P w K mg base (k + 1) CR "take" ["self", "bits"] (spTake CR cB)) :
    FnOk P w K mg base (L2.CX P w) (k + 2) f fd ["self", "heard", "own"] (spHear K C CD CR cN) := by
  have sc := sc_Ear_hear
  refine F.okX sc (fun vs H Q E h => ?_) (fun cdv A_ outer s H vs Q E hr h => ?_)
  · obtain ⟨A, S, ha, oa, hs, os, rfl, _⟩ := h
    rfl
  · obtain ⟨A, S, ha, oa, hs, os, rfl, hp, hok, ht, hh, ho, hhf, hof, q, qe⟩ := h
    refine ⟨_, (pss_cons (ps_expr (pe_callP c_check_burst hr (passes_call (takes_of rfl rfl rfl rfl) (fun _ _ _ _ h => h)) (by rfl) (pa_cons (pv 1) pa_nil)))
 (pss_cons (ps_expr (pe_callP c_check_burst hr (passes_call (takes_of rfl rfl rfl rfl) (fun _ _ _ _ h => h)) (by rfl) (pa_cons (pv 2) pa_nil)))
 (pss_cons (ps_set (i := 3) sc.nd rfl (.inl rfl) (pe_lst pa_nil))
 (pss_cons (ps_for (passes_of rfl) rfl (pi_zip (by rfl) n_zip (pa_cons (pv 1) (pa_cons (pv 2) pa_nil))) (pg_tup rfl (pgs_cons (pg_name (i := 4) sc.nd rfl (.inl rfl)) (pgs_cons (pg_name (i := 5) sc.nd rfl (.inl rfl)) pgs_nil)))
  (pss_cons (ps_fldK K rfl (pv 0) (pe_callC c_with_latest hr (by rfl) (pa_cons (pv 5) (pa_cons (pe_fldK K rfl (pv 0)) pa_nil))))
 (pss_one (ps_expr (pe_bmK K rfl PySem.F.plainAttrs_list PySem.F.slot_list_append PySem.F.type_list_append mt_append (pv 3) (pa_cons (pe_callC c_folded hr (by rfl) (pa_cons (pe_op op_sub (pv 4) (pe_callC c_left_behind hr (by rfl) (pa_cons (pe_fldK K rfl (pv 0)) (pa_cons (pe_fldK K rfl (pv 0)) pa_nil)))) pa_nil)) pa_nil))))))
 (pss_cons (ps_asg (pe_callW cw_heard_path_1_rate hr (passes_call (takes_of rfl rfl rfl rfl) (fun _ _ _ _ h => h)) (by rfl) (pa_cons (pv 3) pa_nil) (pk_cons (pe_fldK K rfl (pv 0)) pk_nil)) (pg_tup rfl (pgs_cons (pg_name (i := 6) sc.nd rfl (.inl rfl)) (pgs_cons (pg_name (i := 7) sc.nd rfl (.inl rfl)) pgs_nil))))
 (pss_cons (ps_set (i := 8) sc.nd rfl (.inl rfl) (pe_slice (sl_listK K rfl) (pe_methP (pe_fldK K rfl (pv 0)) c_Descrambler_push hr (passes_call (takes_of rfl rfl rfl rfl) (fun _ _ _ _ h => h)) (pa_cons (pv 6) pa_nil)) (po_some (pe_fldK K rfl (pv 0))) po_none))
 (pss_cons (ps_fldK K rfl (pv 0) pe_int)
 (pss_one (ps_ret (pe_methP (pe_fldK K rfl (pv 0)) c_Reader_take hr (passes_call (takes_of rfl rfl rfl rfl) (fun _ _ _ _ h => h)) (pa_cons (pv 8) pa_nil))))))))))), ?_⟩
    obtain ⟨rt, ws, cells, RS, tones, un⟩ := S
    obtain ⟨r, dx, t, d, dl, rd, rl, rb, tn⟩ := A
    have ⟨hrt, hsh, htr, hseen⟩ := hok
    have hrt : okR rt := hrt
    have hseen : RS.seen.length ≤ 8000 := hseen
    have ht : SqT K H t (ws.map V.int) := ht
    have hsm : (∀ x ∈ ws, small x) ∧ ws.length ≤ 4 := by
      have htr : trimS ws = ws := htr
      have h1 := hsh.1
      have h2 := hsh.2
      rw [show (⟨rt, ws, cells, RS, tones, un⟩ : ES).ws = ws from rfl, htr] at h1 h2
      exact ⟨h2, h1⟩
    obtain ⟨F0, eF⟩ : ∃ F0, F0 = (tEr C CD CR ⟨r, dx, t, d, dl, rd, rl, rb, tn⟩ ⟨rt, ws, cells, RS, tones, un⟩).ft := ⟨_, rfl⟩
    have R0 : Rn K H F0 [(t, ws.map V.int)] (earTs C CD CR ⟨r, dx, t, d, dl, rd, rl, rb, tn⟩ ⟨rt, ws, cells, RS, tones, un⟩) H := by
      rw [eF]
      exact (Rn.start hp).know ht
    rw [← eF] at hhf hof
    refine ⟨_, rfl, ha, hs, rfl, hh, (fun h18 => ?_), (fun no => qe (.inl no))⟩
    refine ⟨_, rfl, oa, os, rfl, ho, (fun o18 => ?_), (fun no => qe (.inr no))⟩
    have q := q h18 o18
    refine ⟨Nat.zero_le _, fun v nv => ?_⟩
    have R1 := (R0.newL (xs := []) nv).sel [1, 2, 3, 4, 0] (by decide)
    generalize upd H v (.lst []) = H1 at R1 ⊢
    clear nv
    refine name_by ?_
    try dsimp only
    have hz18 : (hs.zip os).length = 18 := by rw [List.length_zip]; omega
    refine ⟨_, rfl, _, rfl, ha, oa, _, _, rfl, R1.keepL hhf hh, R1.keepL hof ho, RZ.for_zipL (xs := hs.map V.int) (ys := os.map V.int) (by rw [List.length_map, List.length_map]; omega) (fun i σ H' => ∃ (tn' : Addr) (y4 y5 : Option V), σ = [some (.ref r), some (.ref ha), some (.ref oa), some (.ref v), y4, y5, none, none, none] ∧ Rn K H F0 [(t, ws.map V.int)] [tO r (.ins C dx (earF rt t d rd tn' (un : Int))), tSc CD d dl cells, tRd CR rd rl rb RS, tL tn' ((erP tones ((hs.zip os).take i)).map V.int), tL v ((erV ws tones ((hs.zip os).take i)).map V.int)] H') ⟨tn, none, none, rfl, R1⟩ (fun i σ H' h => by
      obtain ⟨_, _, _, _, R⟩ := h
      exact ⟨R.keepL hhf hh, R.keepL hof ho⟩) ?_ ?_⟩
    · clear R0 R1
      rintro i x y T σ H1 hx hy ⟨tn', y4, y5, rfl, R1⟩ nT
      obtain ⟨hv, hhv, rfl⟩ := getI hx
      obtain ⟨ov, hov, rfl⟩ := getI hy
      have hz : (hs.zip os)[i]? = some (hv, ov) := by rw [List.getElem?_zip_eq_some]; exact ⟨hhv, hov⟩
      have hi : i < 18 := by rw [← h18]; exact (List.getElem?_eq_some_iff.mp hhv).1
      have R2 := R1.newT (xs := [.int hv, .int ov]) nT
      have eT := R2.tup 0 rfl
      generalize upd H1 T (.tup [.int hv, .int ov]) = H2 at R2 eT ⊢
      refine ⟨T, _, rfl, eT, rfl, _, _, rfl, _, _, rfl, rfl, ?_⟩
      try dsimp only
      refine ⟨_, rfl, _, rfl, r, C, dx, _, _, rfl, R2.at 0 rfl, R.cls, R.n4, rfl, ov, tn', _, rfl, SqL.of (R2.at 3 rfl), fun H3 l3 s3 n3 e3 => ?_⟩
      have R3 := R2.newS s3 n3 e3
      refine ⟨_, rfl, r, C, dx, _, rfl, R3.at 1 rfl, R.cls, R.n4, (by show 6 < 1000; decide), ?_⟩
      have e4 : putF "tones" (.ref l3) (earF rt t d rd tn' (un : Int)) = earF rt t d rd l3 (un : Int) := rfl
      rw [e4]
      have R4 := (R3.put (o' := .ins C dx (earF rt t d rd l3 (un : Int))) 1 rfl).sel [0, 2, 3, 1, 5] (by decide)
      generalize upd H3 r (.ins C dx (earF rt t d rd l3 (un : Int))) = H4 at R4 ⊢
      clear R1 R2 R3 eT nT s3 n3 e3
      refine ⟨_, rfl, .inl ⟨rfl, _, SqL.of (R4.at 4 rfl)⟩, _, rfl, _, rfl, r, C, dx, _, _, rfl, R4.at 0 rfl, R.cls, R.n1, rfl, _, rfl, r, C, dx, _, _, rfl, R4.at 0 rfl, R.cls, R.n4, rfl, t, l3, ws, _, rfl, R4.tup 1 rfl, SqL.of (R4.at 3 rfl), hsm.1, by omega, fun H5 s5 => ?_⟩
      have R5 := R4.same s5
      refine ⟨_, _, rfl, rfl, _, rfl, v, _, _, rfl, rfl, R5.at 4 rfl, ?_, ?_⟩
      · rw [List.length_map, erV_len, List.length_take]
        exact sz4l (by omega)
      refine ⟨l3, _, _, rfl, ?_⟩
      rw [erP_more hz, erV_more hz, List.map_append]
      exact ((R5.put (o' := .lst ((erV ws tones ((hs.zip os).take i)).map V.int ++ [.int (fold (hv - dotL ws (ov :: (erP tones ((hs.zip os).take i)).take 3)))])) 4 rfl).sel [1, 2, 3, 4, 0] (by decide)).selT (fun q hq => .tail _ hq)
    · clear R0 R1
      rintro σ H1 ⟨tn', y4, y5, rfl, R1⟩
      rw [List.length_map, List.take_of_length_le (by omega)] at R1
      obtain ⟨vals, eV⟩ : ∃ vals, vals = erV ws tones (hs.zip os) := ⟨_, rfl⟩
      have lV : vals.length = 18 := by rw [eV, erV_len, hz18]
      rw [← eV] at R1
      obtain ⟨h1, h4⟩ := id hrt
      have okn : okR ((rt.toNat : Nat) : Int) := by rw [show ((rt.toNat : Nat) : Int) = rt by omega]; exact hrt
      obtain ⟨hpb, hpl, _⟩ := hp_opt (hs := vals) okn (by omega)
      try dsimp only
      refine ⟨_, rfl, _, rfl, r, C, dx, _, _, rfl, R1.at 0 rfl, R.cls, R.n0, rfl, rfl, rfl, v, vals, rt, rfl, SqL.of (R1.at 4 rfl), by omega, (fun _ _ H2 p pb s2 np npb ep epb => ?_), (fun _ bad => by omega), (fun no => absurd hrt no)⟩
      obtain ⟨B, eB⟩ : ∃ B, B = hpRow rt.toNat vals := ⟨_, rfl⟩
      rw [← eB] at epb hpb hpl
      have lB : B.length ≤ 64 := by
        rw [hpl, lV]
        exact Nat.mul_le_mul (show rt.toNat ≤ 4 by omega) (show 18 - 2 ≤ 16 by decide)
      have R2 := R1.newS s2 npb epb
      clear R1 s2 np npb
      refine ⟨p, _, rfl, SqT.of ep, rfl, _, _, rfl, _, _, rfl, rfl, ?_⟩
      try dsimp only
      -- descrambled
      obtain ⟨⟨dxd, hd⟩, _⟩ : Scr CD d dl cells H2 := R2.get 2 rfl
      refine ⟨_, rfl, r, C, dx, _, _, rfl, R2.at 1 rfl, R.cls, R.n2, rfl, d, dxd, _, rfl, hd, rfl, _, rfl, d, dl, pb, cells, B, rfl, R2.get 2 rfl, R2.at 0 rfl, Nat.le_trans lB (by decide), (fun _ H3 o l3 m3 no eo hl3 hsc3 nol => ?_), (fun i z hz nz => absurd (hpb z (List.mem_of_getElem? hz)) nz)⟩
      have R3 := (R2.up 2 rfl (sc_push (R2.get 2 rfl) m3 no eo hl3 hsc3 nol)).sel [3, 1, 4, 5, 0] (by decide)
      clear R2 hd m3 no eo hl3 hsc3 nol ep epb
      refine ⟨_, rfl, r, C, dx, _, _, rfl, R3.at 0 rfl, R.cls, R.n5, rfl, _, rfl, o, _, rfl, SqL.of (R3.at 4 rfl), fun p4 np4 => ?_⟩
      rw [show cutV ((scO false cells B).map V.int) (some (un : Int)) none = ((scO false cells B).drop un).map V.int by rw [cut_from_n, List.map_drop]]
      obtain ⟨D, eD⟩ : ∃ D, D = (scO false cells B).drop un := ⟨_, rfl⟩
      have bD : Bits D := by rw [eD]; exact fun z hz => scO_bits false B cells z (List.mem_of_mem_drop hz)
      have lD : D.length ≤ 64 := by
        rw [eD, List.length_drop, scO_len]
        exact Nat.le_trans (Nat.sub_le _ _) lB
      rw [← eD]
      have R4 := R3.newL (xs := D.map V.int) np4
      generalize upd H3 p4 (.lst (D.map V.int)) = H4 at R4 ⊢
      clear R3 np4
      refine name_by ?_
      try dsimp only
      refine ⟨_, rfl, r, C, dx, _, rfl, R4.at 1 rfl, R.cls, R.n5, (by show 6 < 1000; decide), ?_⟩
      have e5 : putF "unsure" (.int 0) (earF rt t d rd tn' (un : Int)) = earF rt t d rd tn' ((0 : Nat) : Int) := rfl
      rw [e5]
      have R5 := (R4.put (o' := .ins C dx (earF rt t d rd tn' ((0 : Nat) : Int))) 1 rfl).sel [0, 2, 3, 4, 1] (by decide)
      generalize upd H4 r (.ins C dx (earF rt t d rd tn' ((0 : Nat) : Int))) = H5 at R5 ⊢
      clear R4
      -- taken
      have hrd : RdP CR rd rl rb RS H5 := R5.get 2 rfl
      obtain ⟨⟨⟨dxr, hins⟩, _⟩, _⟩ := id hrd
      refine ⟨_, rfl, r, C, dx, _, _, rfl, R5.at 0 rfl, R.cls, R.n3, rfl, rd, dxr, _, rfl, hins, rfl, _, rfl, rd, rl, rb, RS, p4, D, rfl, hrd, R5.at 4 rfl, R5.hw.hs.ne 4 2 rfl rfl (.head _) (.tail _ (.tail _ (.head _))), by omega, (fun _ H6 l6 bh6 pl ps m6 hf6 hrd6 ep6 hrow6 hn6 hnp6 => ?_), (fun i z hz nz => absurd (bD z (List.mem_of_getElem? hz)) nz)⟩
      have R6 := (R5.up 2 rfl (rd_take hrd m6 hf6 hrd6 ep6 hrow6 hn6 hnp6)).sel [0, 2, 3, 1, 4] (by decide)
      rw [eF] at R6
      refine q H6 ⟨r, dx, t, d, l3, rd, l6, bh6, tn'⟩ pl ps rfl rfl ?_
      have eD2 : D = heC ⟨rt, ws, cells, RS, tones, un⟩ hs os := by rw [eD, eB, eV]; rfl
      have eB2 : B = heB ⟨rt, ws, cells, RS, tones, un⟩ hs os := by rw [eB, eV]; rfl
      rw [eD2, eB2] at R6
      exact R6.out
theorem sc_Ear_hurt : FnScope ["self"] ["self"] (defScope m_Ear_hurt) := ⟨rfl, rfl, rfl, by decide +kernel, rfl, by decide +kernel, by decide +kernel⟩
theorem ok_Ear_hurt {f C CD CR : Addr} {fd : FuncData} {k : Nat} (F : Fun K "hurt" "Ear.hurt" m_Ear_hurt f fd) (R : ErC K C) (c_Reader_hurt : CalM CX0 P w K mg base (k + 1) CR "hurt" ["self"] (spHurt CR)) : FnOk P w K mg base CX0 (k + 2) f fd ["self"] (spErHurt C CD CR) := by
  have sc := sc_Ear_hurt
  refine F.ok sc (fun vs H Q E h => ?_) (fun cdv A_ outer s H vs Q E hr h => ?_)
  · obtain ⟨A, S, rfl, _⟩ := h
    rfl
  · obtain ⟨A, S, rfl, hp, q⟩ := h
    refine ⟨_, (pss_one (ps_ret (pe_methC0 (pe_fldK K rfl (pv 0)) c_Reader_hurt hr))), ?_⟩
    have R0 : Rn K H (tEr C CD CR A S).ft [] (earTs C CD CR A S) H := Rn.start hp
    have hrd : RdP CR A.rd A.rl A.rb S.R H := R0.get 2 rfl
    obtain ⟨⟨⟨dxr, hins⟩, h2⟩, h3⟩ := id hrd
    exact ⟨_, rfl, A.r, C, A.dx, _, _, rfl, R0.at 0 rfl, R.cls, R.n3, rfl, A.rd, dxr, _, rfl, hins, rfl, A.rd, A.rl, A.rb, S.R, rfl, hrd.1, q⟩
theorem sc_Shaper_past : FnScope ["self"] ["self"] (defScope m_Shaper_past) := ⟨rfl, rfl, rfl, by decide +kernel, rfl, by decide +kernel, by decide +kernel⟩
theorem ok_Shaper_past {f C : Addr} {fd : FuncData} {k : Nat} (F : Fun K "past" "Shaper.past" m_Shaper_past f fd) (R : ShC K C) (n_list : mg "list" = none) : FnOk P w K mg base CX0 (k + 1) f fd ["self"] (spPast C) := by
  have sc := sc_Shaper_past
  refine F.ok sc (fun vs H Q E h => ?_) (fun cdv A outer s H vs Q E hr h => ?_)
  · obtain ⟨r, l, t, ns, rfl, _⟩ := h
    rfl
  · obtain ⟨r, l, t, ns, rfl, ⟨⟨dx, hins⟩, hmem⟩, q⟩ := h
    refine ⟨_, (pss_one (ps_ret (pe_callTy (call_listK K rfl) (by rfl) n_list (by decide +kernel) (pa_cons (pe_fldK K rfl (pv 0)) pa_nil)))), ?_⟩
    exact ⟨_, rfl, r, C, dx, _, _, rfl, hins, R.cls, R.nn, rfl, l, _, rfl, .inl (SqL.of hmem), q⟩
/-! ### wires: shares told, twins, == -/
def d4 (W : W4) : PyData := .tuple [.tuple (W.forth.map PyData.int), .tuple (W.back.map PyData.int), .tuple (W.near.map PyData.int), .tuple (W.far.map PyData.int)]
theorem dp_four {f : Addr} {W : W4} {H : Hp} (h : FourAt K f W H) : Dp K H (.ref f) (d4 W) := by
  obtain ⟨t0, t1, t2, t3, h, h0, h1, h2, h3⟩ := h
  exact .tup h (.cons (.tup h0 (dpa_ints _)) (.cons (.tup h1 (dpa_ints _)) (.cons (.tup h2 (dpa_ints _)) (.cons (.tup h3 (dpa_ints _)) .nil))))
theorem shaped_four (W : W4) : SeqAt.shaped (d4 W) = true := by
  unfold SeqAt.shaped d4
  rw [Bool.and_eq_true]
  refine ⟨?_, decide_eq_true ?_⟩
  · show (PyData.canLayAll0 (W.forth.map PyData.int) && (PyData.canLayAll0 (W.back.map PyData.int) && (PyData.canLayAll0 (W.near.map PyData.int) && (PyData.canLayAll0 (W.far.map PyData.int) && true)))) = true
    rw [canLay_ints, canLay_ints, canLay_ints, canLay_ints]
    rfl
  · show max (PyData.depthAll (W.forth.map PyData.int) + 1) (max (PyData.depthAll (W.back.map PyData.int) + 1) (max (PyData.depthAll (W.near.map PyData.int) + 1) (max (PyData.depthAll (W.far.map PyData.int) + 1) 0))) + 1 ≤ 64
    rw [depth_ints, depth_ints, depth_ints, depth_ints]
    decide
def W4.same (W V : W4) : Prop := W.forth = V.forth ∧ W.back = V.back ∧ W.near = V.near ∧ W.far = V.far
instance (W V : W4) : Decidable (W.same V) := by unfold W4.same; exact inferInstance
theorem eqv_four (W V : W4) : PyData.eqv (d4 W) (d4 V) = decide (W.same V) := by
  show (PyData.eqv (.tuple (W.forth.map PyData.int)) (.tuple (V.forth.map PyData.int)) && (PyData.eqv (.tuple (W.back.map PyData.int)) (.tuple (V.back.map PyData.int)) && (PyData.eqv (.tuple (W.near.map PyData.int)) (.tuple (V.near.map PyData.int)) && (PyData.eqv (.tuple (W.far.map PyData.int)) (.tuple (V.far.map PyData.int)) && true)))) = _
  rw [eqv_tups, eqv_tups, eqv_tups, eqv_tups, Bool.and_true]
  unfold W4.same
  rw [← Bool.decide_and, ← Bool.decide_and, ← Bool.decide_and]
theorem FourAt.updI {f : Addr} {W : W4} {H : Hp} {r C dx : Addr} {fs : List (Str × V)} {o : HO} (e : H r = some (.ins C dx fs)) (h : FourAt K f W H) : FourAt K f W (upd H r o) := h.keep fun t xs h => sqT_updI e h
theorem FourAt.same {f : Addr} {W : W4} {H H' : Hp} (s : Same H H') (h : FourAt K f W H) : FourAt K f W H' := h.keep fun t xs h => same_t s h
def wSame (W V : W4) (ns ns' ms ms' : List Int) : Bool := decide (W.same V) && (decide (ns = ns') && decide (ms = ms'))
def spWEq (K : PySem.W.Frag) (C : Addr) : Sp := fun vs H Q _ => (∃ (r f p q r' f' p' q' : Addr) (ns ms ns' ms' : List Int) (W V : W4), vs = [.ref r, .ref r'] ∧ Wr C r f p q ns ms H ∧ Wr C r' f' p' q' ns' ms' H ∧ FourAt K f W H ∧ FourAt K f' V H ∧ Q (.bl (wSame W V ns ns' ms ms')) H) ∨
  ∃ (r f p q : Addr) (ns ms : List Int) (y : V) (t : Value), vs = [.ref r, y] ∧ Wr C r f p q ns ms H ∧ TyX K H y t ∧ PySem.W.kitOne K t (.ref C) = some false ∧ Q (.bl false) H
theorem sc_Wire___eq__ : FnScope ["self", "other"] ["self", "other"] (defScope m_Wire___eq__) := ⟨rfl, rfl, rfl, by decide +kernel, rfl, by decide +kernel, by decide +kernel⟩
theorem ok_Wire___eq__ {f C : Addr} {fd : FuncData} {k : Nat} (F : Fun K "__eq__" "Wire.__eq__" m_Wire___eq__ f fd) (R : WrC K C) (n_isinstance : mg "isinstance" = none) (y_Wire : mg "Wire" = some (.ref C)) (i_Wire : IsiC K C) : FnOk P w K mg base CX0 (k + 1) f fd ["self", "other"] (spWEq K C) := by
  have sc := sc_Wire___eq__
  refine F.ok sc (fun vs H Q E h => ?_) (fun cdv A outer s H vs Q E hr h => ?_)
  · rcases h with ⟨r, f, p, q, r', f', p', q', ns, ms, ns', ms', W, V, rfl, _⟩ | ⟨r, f, p, q, ns, ms, y, t, rfl, _⟩
    · rfl
    · rfl
  · refine ⟨_, (pss_one (ps_ret (pe_and (pe_callB (call_isiK1 K rfl) (by rfl) n_isinstance (by decide +kernel) (pa_cons (pv 1) (pa_cons (pe_glob (v := .ref C) (by rfl) y_Wire rfl) pa_nil))) (pe_and (pe_cmpR (op_eqDK K rfl hr.units) (pe_fldK K rfl (pv 0)) (pe_fldK K rfl (pv 1)) (nomark _)) (pe_and (pe_cmpR (op_eqDK K rfl hr.units) (pe_fldK K rfl (pv 0)) (pe_fldK K rfl (pv 1)) (nomark _)) (pe_one (pe_cmpR (op_eqDK K rfl hr.units) (pe_fldK K rfl (pv 0)) (pe_fldK K rfl (pv 1)) (nomark _)))))))), ?_⟩
    rcases h with ⟨r, f, p, q, r', f', p', q', ns, ms, ns', ms', W, V, rfl, ⟨⟨dx, hins⟩, hone, hoth, _⟩, ⟨⟨dx', hins'⟩, hone', hoth', _⟩, hF, hF', qq⟩ | ⟨r, f, p, q, ns, ms, y, ty, rfl, ⟨⟨dx, hins⟩, _⟩, hty, hk, qq⟩
    · refine ⟨_, rfl, _, _, _, _, _, rfl, .own C, isi_own i_Wire R.cls hins', i_Wire.kt, _, rfl, iteT ?_⟩
      refine ⟨_, rfl, r, C, dx, _, _, rfl, hins, R.cls, R.nf, rfl, _, rfl, r', C, dx', _, _, rfl, hins', R.cls, R.nf, rfl, d4 W, d4 V, dp_four hF, dp_four hF', shaped_four _, shaped_four _, ?_⟩
      rw [eqv_four]
      refine ⟨_, rfl, ite2 (fun e => ?_) (fun e => ?_)⟩
      · refine ⟨_, rfl, r, C, dx, _, _, rfl, hins, R.cls, R.n1, rfl, _, rfl, r', C, dx', _, _, rfl, hins', R.cls, R.n1, rfl, dI ns, dI ns', dp_ints (SqL.of hone), dp_ints (SqL.of hone'), shaped_ints _, shaped_ints _, ?_⟩
        rw [eqv_ints]
        refine ⟨_, rfl, ite2 (fun e2 => ?_) (fun e2 => ?_)⟩
        · refine ⟨_, rfl, r, C, dx, _, _, rfl, hins, R.cls, R.n2, rfl, _, rfl, r', C, dx', _, _, rfl, hins', R.cls, R.n2, rfl, dI ms, dI ms', dp_ints (SqL.of hoth), dp_ints (SqL.of hoth'), shaped_ints _, shaped_ints _, ?_⟩
          rw [eqv_ints]
          have : wSame W V ns ns' ms ms' = decide (ms = ms') := by unfold wSame; rw [e, e2, Bool.true_and, Bool.true_and]
          rw [this] at qq
          exact qq
        · have : wSame W V ns ns' ms ms' = false := by
            unfold wSame
            rw [show decide (ns = ns') = false from Bool.eq_false_iff.mpr e2, Bool.false_and, Bool.and_false]
          rw [this] at qq
          exact qq
      · have : wSame W V ns ns' ms ms' = false := by
          unfold wSame
          rw [show decide (W.same V) = false from Bool.eq_false_iff.mpr e, Bool.false_and]
        rw [this] at qq
        exact qq
    · exact ⟨_, rfl, y, _, ty, _, false, rfl, .own C, hty, hk, _, rfl, iteF qq⟩
/-- a comprehension over zip of two lists of one length -/
theorem lc_zip {a b : Addr} {xs ys : List V} {g : TG} {tt : TT} {te : TE} {vs : List Nat} {σ : L2.St} {H1 : Hp} {D : Addr} {Qd : Hp → Prop} (hl : xs.length = ys.length) (Pv : Nat → Hp → Prop) (h0 : Pv 0 (upd H1 D (.lst []))) (hq : ∀ i H, Pv i H → SqL K H a xs ∧ SqL K H b ys)
    (hs : ∀ (i : Nat) (x y : V) (T : Addr) (H : Hp), xs[i]? = some x → ys[i]? = some y → Pv i H → H T = none → g (.ref T) (wipe σ vs) (upd H T (.tup [x, y])) fun σ2 H2 => wipe σ2 vs = wipe σ vs ∧ tt σ2 H2 fun b H3 =>
      if b = true then te σ2 H3 fun y H4 => ∃ acc, H4 D = some (.lst acc) ∧ acc.length < sizeLine ∧ Pv (i + 1) (upd H4 D (.lst (acc ++ [y]))) else Pv (i + 1) H3) (hd : ∀ H, Pv xs.length H → Qd H) :
    ∃ W : Nat → Nat → Hp → Prop, (∃ m, W 0 m (upd H1 D (.lst []))) ∧ ∀ i m H, W i m H →
      ((Itz K a b).stop i H ∧ Qd H) ∨ ((Itz K a b).go i H ∧ ∃ Nx : Hp → Prop, (∀ H', Nx H' → ∃ m', m' < m ∧ W (i + 1) m' H') ∧ ∀ x H', (Itz K a b).yld i H x H' → g x (wipe σ vs) H' fun σ2 H2 => wipe σ2 vs = wipe σ vs ∧ tt σ2 H2 fun b H3 =>
        if b = true then te σ2 H3 fun y H4 => ∃ acc, H4 D = some (.lst acc) ∧ acc.length < sizeLine ∧ Nx (upd H4 D (.lst (acc ++ [y]))) else Nx H3) := by
  refine ⟨fun i m H => m = xs.length - i ∧ i ≤ xs.length ∧ Pv i H, ⟨xs.length, rfl, Nat.zero_le _, h0⟩, ?_⟩
  rintro i m H ⟨rfl, hi, p⟩
  obtain ⟨qx, qy⟩ := hq i H p
  by_cases hlt : i < xs.length
  · have hx : xs[i]? = some xs[i] := List.getElem?_eq_getElem hlt
    have hlt2 : i < ys.length := by omega
    have hy : ys[i]? = some ys[i] := List.getElem?_eq_getElem hlt2
    refine .inr ⟨⟨xs, ys, _, _, qx, qy, hx, hy⟩, Pv (i + 1), fun H' p' => ⟨xs.length - (i + 1), by omega, rfl, hlt, p'⟩, fun v H' y => ?_⟩
    obtain ⟨T, x', y', rfl, hT, rfl, f1, f2⟩ := y
    exact hs i x' y' T H (f1 xs qx) (f2 ys qy) p hT
  · have e : i = xs.length := by omega
    subst e
    exact .inl ⟨⟨xs, ys, qx, qy, Or.inl (Nat.le_refl _)⟩, hd H p⟩
theorem asgG_by {te : TE} {g : TG} {u : TS} {D : Ends} {σ : L2.St} {H : Hp} (J : V → Hp → Prop) (h2 : ∀ v H1, J v H1 → g v σ H1 (u D)) (h1 : (∀ v H1, J v H1 → g v σ H1 (u D)) → te σ H (fun x H1 => g x σ H1 (u D))) : tSeq (tAsg te g) u D σ H := h1 h2
theorem ixN_nat {i n : Nat} (h : i < n) : ixN n (i : Int) = some i := by
  unfold ixN
  rw [if_pos (by omega), if_pos (by omega)]
  simp
theorem sc__law_tried : FnScope ["_law_act", "e"] ["_law_act"] (defScope s__law_tried) := ⟨rfl, rfl, rfl, by decide +kernel, rfl, by decide +kernel, by decide +kernel⟩
/-- what the law's tried makes of a lambda: told, or refused by one of two classes, whose word it tells -/
def TTried2 (C1 : Addr) (nm1 : Str) (C2 : Addr) (nm2 : Str) : (XK → Hp → VK → Prop) → Hp → VK → Prop := fun tl H Q =>
  tl (fun cls d H' => ∃ (dd : Addr) (fs : List (Str × V)), d = some dd ∧ H' dd = some (.xd fs) ∧ ((cls = .ref C1 ∧ fs.lookup ("word" : Str) = some (.str nm1) ∧ ∀ p, H' p = none → Q (.ref p) (upd H' p (.tup [.str "refused", .str nm1]))) ∨ (cls = .ref C2 ∧ fs.lookup ("word" : Str) = some (.str nm2) ∧ ∀ p, H' p = none → Q (.ref p) (upd H' p (.tup [.str "refused", .str nm2]))))) H
    (fun v H1 => ([V.str "told", v] : List V).length ≤ sizeLine ∧ ∀ p, H1 p = none → Q (.ref p) (upd H1 p (.tup [.str "told", v])))
theorem tried2_gives {X : Cx} {g c1 c2 cL cM : Addr} {cdg : Value} {q nm1 nm2 : Str} (x1 : XfC X.K c1) (no1 : PySem.W.findIn X.K (.ref c1) "word" = some none) (x2 : XfC X.K c2) (no2 : PySem.W.findIn X.K (.ref c2) "word" = some none) (gL : X.mg "LineError" = some (.ref cL)) (gM : X.mg "Missing" = some (.ref cM))
    (nl1 : PySem.W.exmOne X.K (.ref c1) (.ref cL) = some true) (nl2 : PySem.W.exmOne X.K (.ref c2) (.ref cL) = some true) :
    LamX.GivesTo X ["_law_act", "e"] "_law_tried" (defScope s__law_tried) g cdg (defBody s__law_tried) "_law_act" q (TTried2 c1 nm1 c2 nm2) := by
  intro f c' s H Q tl act hc h
  have sc := sc__law_tried
  refine ⟨_, pss_one (ps_try_manyA (X := (cxOf C8.CX0 X.prog X.w X.K X.mg X.base ["_law_act", "e"] "_law_tried" (defScope s__law_tried) g cdg X.A X.stack s H C8.E0).nox) (n := "e") (i := 1)
      (tb := fun W D σ H => ∃ Ech : XK, (∀ cls d σ' H', Ech cls d H' → σ'.length = 2 → W cls d σ' H') ∧ σ[0]? = some (some (.ref f)) ∧ H c' = some (LamX.CodeO c' q) ∧ tl Ech H (fun v H1 => ([V.str "told", v] : List V).length ≤ sizeLine ∧ ∀ p, H1 p = none → D.rt (.ref p) (upd H1 p (.tup [.str "told", v]))))
      rfl rfl sc.nd rfl rfl LamX.takes0 (fun W pn xe tk _ => ?_)
      (.cons (c := .ref cL) ⟨by rfl, by decide, .inl gL⟩ (fun a oe cls d pn hz hf => pss_one (ps_ret (pe_tup (pa_cons pe_str (pa_cons (pe_or2 (pe_xf x1 no1 hz hf (pv 1)) (pe_xf x2 no2 hz hf (pv 1))) pa_nil)))))
      (.cons (c := .ref cM) ⟨by rfl, by decide, .inl gM⟩ (fun a oe cls d pn hz hf => pss_one ps_never) .nil))), ?_⟩
  · refine ⟨fun pins s' σ H' D I h' => ?_⟩
    obtain ⟨Ech, hW, h1, h2, h3⟩ := h'
    exact PSs.run (pss_one (ps_ret (pe_tup (pa_cons pe_str (pa_cons (act _ pn xe Ech _ _ (takes_len tk) (fun cls d σ' H' e hl => hW cls d σ' H' e hl)) pa_nil))))) pins s' σ H' D I ⟨h1, h2, h3⟩
  · refine ⟨_, fun cls d σ' H' e hl => ?_, rfl, hc, h⟩
    have g1 : ∀ a : Addr, (σ'.set 1 (some (V.ref a)))[1]? = some (some (V.ref a)) := fun a => set_get (by omega)
    obtain ⟨dd, fs, rfl, hd, ⟨rfl, hw, q'⟩ | ⟨rfl, hw, q'⟩⟩ := e
    · exact ⟨true, nl1, fun _ a _ => .inl ⟨_, g1 a, rfl, rfl, dd, _, _, rfl, hd, hw, (by show 2 ≤ sizeLine; decide), q'⟩, fun z => by cases z⟩
    · exact ⟨true, nl2, fun _ a _ => .inr ⟨_, g1 a, rfl, rfl, dd, _, _, rfl, hd, hw, (by show 2 ≤ sizeLine; decide), q'⟩, fun z => by cases z⟩
abbrev qLam : Str := "law.<locals>.<lambda>"
def spLaw (K : PySem.W.Frag) (tP : Addr) : Sp := fun vs H Q _ => ∃ (a : Addr) (ns : List Int), vs = [.ref a] ∧ SqL K H a (ns.map V.int) ∧ H tP = some (.tbl #[]) ∧ ∀ H', Q (.bl true) H'
theorem bits_rep {d : Int} (h : isB d) (n : Nat) : Bits (List.replicate n d) := fun z hz => by
  rw [List.eq_of_mem_replicate hz]
  exact h
theorem dp_si {H : Hp} {a : Addr} {x : Str} {i : Int} (h : H a = some (.lst [.str x, .int i])) : Dp K H (.ref a) (.list [.str x, .int i]) := .lst (SqL.of h) (.cons (.str x) (.cons (.int i) .nil))
theorem shaped_si {x : Str} (hx : PyData.canLay0 (.str x) = true) (i : Int) : SeqAt.shaped (.list [.str x, .int i]) = true := by
  unfold SeqAt.shaped
  rw [Bool.and_eq_true]
  refine ⟨?_, decide_eq_true (by show max 0 (max 0 0) + 1 ≤ 64; decide)⟩
  show (PyData.canLay0 (.str x) && (true && true)) = true
  rw [hx]
  rfl
theorem lay_BadFrame : PyData.canLay0 (.str "BadFrame") = true := by decide +kernel
theorem lay_BadBit : PyData.canLay0 (.str "BadBit") = true := by decide +kernel
theorem dn_ints (ns : List Int) (h : ns.length ≤ 100000) (n : Nat) : Dn (n + 2) (dI ns) := .inr (.inr (.inr (.inr ⟨_, .inl rfl, by rw [List.length_map]; exact h, fun e he => by
  obtain ⟨z, _, rfl⟩ := List.mem_map.mp he
  exact .inr (.inl ⟨z, rfl⟩)⟩)))
theorem sc__law_bag : FnScope ["_law_script"] ["_law_script"] (defScope s__law_bag) := ⟨rfl, rfl, rfl, by decide +kernel, rfl, by decide +kernel, by decide +kernel⟩
theorem ok__law_bag {f : Addr} {fd : FuncData} {k : Nat} (F : Fun K "_law_bag" "_law_bag" s__law_bag f fd) (n_len : mg "len" = none) (n_list : mg "list" = none) : FnOk P w K mg base CX0 (k + 1) f fd ["_law_script"] (spBag K) := by
  have sc := sc__law_bag
  refine F.ok sc (fun vs H Q E h => ?_) (fun cdv A outer s H vs Q E hr h => ?_)
  · obtain ⟨a, ns, rfl, _⟩ := h
    rfl
  · obtain ⟨a, ns, rfl, hS, q⟩ := h
    refine ⟨_, (pss_one (ps_ret (pe_lst (pa_cons (pe_callTy (call_listK K rfl) (by rfl) n_list (by decide +kernel) (pa_cons (pe_slice (sl_listK K rfl) (pv 0) po_none (po_some pe_int)) pa_nil)) (pa_cons pe_int (pa_cons pe_int (pa_cons (pe_op op_add pe_int (pe_callB (call_lenK K rfl) (by rfl) n_len PySem.boot_len (pa_cons (pe_slice (sl_listK K rfl) (pv 0) po_none (po_some pe_int)) pa_nil))) (pa_cons pe_int pa_nil)))))))), ?_⟩
    refine ⟨_, rfl, 63, rfl, a, _, rfl, hS, fun p1 n1 => ?_⟩
    refine ⟨p1, _, rfl, .inl (SqL.of upd_same), fun p2 n2 => ?_⟩
    have s1 : Same H (upd H p1 (.lst (cutV (ns.map V.int) none (some 63)))) := same_upd n1
    have s2 := s1.trans (same_upd (o := .lst (cutV (ns.map V.int) none (some 63))) n2)
    refine ⟨_, rfl, 63, rfl, a, _, rfl, s2.seq hS, fun p3 n3 => ?_⟩
    have s3 := s2.trans (same_upd (o := .lst (cutV (ns.map V.int) none (some 63))) n3)
    refine ⟨p3, _, rfl, .inl (SqL.of upd_same), _, _, rfl, rfl, (by show 5 ≤ sizeLine; decide), fun p4 n4 => ?_⟩
    have s4 := s3.trans (same_upd (o := .lst (bagL p2 0 0 (977 + ((cutV (ns.map V.int) none (some 63)).length : Int)) 0)) n4)
    have e0 : cutV (ns.map V.int) none (some 63) = (ns.take 63).map V.int := by
      unfold cutV
      rw [HT.sIx_none, show HT.sIx (ns.map V.int).length (ns.map V.int).length (some 63) = min 63 (ns.map V.int).length from HT.sIx_nat _ _ 63]
      simp only [List.drop_zero, Nat.sub_zero, List.length_map, List.map_take]
      by_cases h : ns.length ≤ 63
      · rw [Nat.min_eq_right h, List.take_of_length_le (by simp), List.take_of_length_le (by simpa using h)]
      · rw [Nat.min_eq_left (by omega)]
    have n42 : p4 ≠ p2 := fun z => by
      rw [z, upd_ne (ne_of_none upd_same n3), upd_same] at n4
      cases n4
    refine q _ (p4, p2) s4 (s3.free n4) ⟨ns.take 63, 0, 0, _, 0, upd_same, ?_, n42.symm, by omega, ?_, ?_⟩
    · rw [upd_ne n42.symm, upd_ne (ne_of_none upd_same n3), upd_same, e0]
    · omega
    · rw [e0, List.length_map, List.length_take]
      omega
theorem sc__law_pick : FnScope ["_law_bag_here", "_law_top", "_law_cell", "_law_digit"] ["_law_bag_here", "_law_top"] (defScope s__law_pick) := ⟨rfl, rfl, rfl, by decide +kernel, rfl, by decide +kernel, by decide +kernel⟩
theorem ok__law_pick {f : Addr} {fd : FuncData} {k : Nat} (F : Fun K "_law_pick" "_law_pick" s__law_pick f fd) (n_len : mg "len" = none) : FnOk P w K mg base CX0 (k + 1) f fd ["_law_bag_here", "_law_top"] spPick := by
  have sc := sc__law_pick
  refine F.ok sc (fun vs H Q E h => ?_) (fun cdv A outer s H vs Q E hr h => ?_)
  · obtain ⟨b, top, rfl, _⟩ := h
    rfl
  · obtain ⟨⟨b, sa⟩, top, rfl, ⟨ns, i, r, x, c, hb, hs, hne, hi, hx0, hx1⟩, ht0, ht1, q⟩ := h
    refine ⟨_, (pss_cons (ps_if (PW.pt (pw_and (pt_cmpR op_lt (pe_ix (ix_listK K rfl) (pv 0) pe_int (fun _ _ => rfl)) (pv 1) (nomark _)) (pw_and1 (pt_cmpR op_lt (pe_ix (ix_listK K rfl) (pv 0) pe_int (fun _ _ => rfl)) (pe_callB (call_lenK K rfl) (by rfl) n_len PySem.boot_len (pa_cons (pe_ix (ix_listK K rfl) (pv 0) pe_int (fun _ _ => rfl)) pa_nil)) (nomark _)))))
  (pss_cons (ps_set (i := 2) sc.nd rfl (.inl rfl) (pe_ix (ix_listK K rfl) (pe_ix (ix_listK K rfl) (pv 0) pe_int (fun _ _ => rfl)) (pe_ix (ix_listK K rfl) (pv 0) pe_int (fun _ _ => rfl)) (fun _ _ => rfl)))
 (pss_cons (ps_asg (pe_op op_add (pe_ix (ix_listK K rfl) (pv 0) pe_int (fun _ _ => rfl)) pe_int) (pg_sub (pv 0) pe_int set_list))
 (pss_cons (ps_asg (pe_op op_mod (pe_op op_add (pe_op op_add (pe_op op_mul (pe_ix (ix_listK K rfl) (pv 0) pe_int (fun _ _ => rfl)) pe_int) (pv 2)) (pe_ix (ix_listK K rfl) (pv 0) pe_int (fun _ _ => rfl))) pe_int) (pg_sub (pv 0) pe_int set_list))
 (pss_one (ps_asg (pe_ifExp (pt_cmpR op_ge (pv 2) (pe_op op_pow pe_int pe_int) (nomark _)) (pv 2) pe_int) (pg_sub (pv 0) pe_int set_list))))))
  pss_nil)
 (pss_cons (ps_if (pt_cmpR op_ge (pe_ix (ix_listK K rfl) (pv 0) pe_int (fun _ _ => rfl)) (pv 1) (nomark _))
  (pss_cons (ps_set (i := 3) sc.nd rfl (.inl rfl) (pe_op op_mod (pe_ix (ix_listK K rfl) (pv 0) pe_int (fun _ _ => rfl)) (pv 1)))
 (pss_cons (ps_asg (pe_op op_fdiv (pe_ix (ix_listK K rfl) (pv 0) pe_int (fun _ _ => rfl)) (pv 1)) (pg_sub (pv 0) pe_int set_list))
 (pss_one (ps_ret (pv 3)))))
  pss_nil)
 (pss_cons (ps_asg (pe_op op_add (pe_ix (ix_listK K rfl) (pv 0) pe_int (fun _ _ => rfl)) pe_int) (pg_sub (pv 0) pe_int set_list))
 (pss_cons (ps_asg (pe_op op_mod (pe_op op_add (pe_op op_add (pe_op op_add (pe_op op_pow (pe_ix (ix_listK K rfl) (pv 0) pe_int (fun _ _ => rfl)) pe_int) (pe_op op_mul pe_int (pe_ix (ix_listK K rfl) (pv 0) pe_int (fun _ _ => rfl)))) (pe_op op_fdiv (pe_ix (ix_listK K rfl) (pv 0) pe_int (fun _ _ => rfl)) pe_int)) pe_int) pe_int) (pg_sub (pv 0) pe_int set_list))
 (pss_one (ps_ret (pe_op op_mod (pe_op op_fdiv (pe_ix (ix_listK K rfl) (pv 0) pe_int (fun _ _ => rfl)) pe_int) (pv 1)))))))), ?_⟩
    refine seq_by (J := fun σ1 H1 => ∃ (y2 : Option V) (i r x c : Int), σ1 = [some (.ref b), some (.int top), y2, none] ∧ H1 b = some (.lst (bagL sa i r x c)) ∧ H1 sa = some (.lst (ns.map V.int)) ∧ Mv b H H1 ∧ 0 ≤ i ∧ 0 ≤ x ∧ x < 2147483648) ?_ (fun rest => ?_)
    · rintro σ1 H1 ⟨y2, i, r, x, c, rfl, hb, hs, mv, hi, hx0, hx1⟩
      refine ⟨_, rfl, b, _, 2, .int r, rfl, rfl, SqL.of hb, rfl, _, rfl, r, top, rfl, rfl, _, rfl, ite2 (fun e => ?_) (fun e => ?_)⟩
      · refine ⟨_, rfl, b, _, 2, .int r, rfl, rfl, SqL.of hb, rfl, _, rfl, r, top, rfl, rfl, ht0, ?_⟩
        refine ⟨_, rfl, b, _, 2, .int r, rfl, rfl, SqL.of hb, rfl, _, rfl, r, top, rfl, rfl, ⟨ht0, ht1⟩, ?_⟩
        refine ⟨_, rfl, b, _, 2, 2, rfl, rfl, hb, rfl, ?_⟩
        refine ⟨_, rfl, ?_⟩
        refine q _ _ mv.upd ⟨ns, i, _, x, c, upd_same, ?_, hne, hi, hx0, hx1⟩ (Int.emod_nonneg _ (by omega)) (Int.emod_lt_of_pos _ ht0)
        rw [upd_ne hne]
        exact hs
      · refine ⟨_, rfl, b, _, 4, .int c, rfl, rfl, SqL.of hb, rfl, c, 1, rfl, rfl, _, rfl, b, _, 4, 4, rfl, rfl, hb, rfl, ?_⟩
        have hb2 : upd H1 b (.lst (bagL sa i r x (c + 1))) b = some (.lst (bagL sa i r x (c + 1))) := upd_same
        refine ⟨_, rfl, b, _, 3, .int x, rfl, rfl, SqL.of hb2, rfl, x, 3, rfl, rfl, ⟨by decide, by decide, by omega⟩, ?_⟩
        refine ⟨_, rfl, b, _, 4, .int (c + 1), rfl, rfl, SqL.of hb2, rfl, 40503, c + 1, rfl, rfl, .inl ⟨by decide, by decide⟩, _, _, rfl, rfl, ?_⟩
        refine ⟨_, rfl, b, _, 3, .int x, rfl, rfl, SqL.of hb2, rfl, x, 65537, rfl, rfl, ⟨by decide, by decide⟩, _, _, rfl, rfl, _, _, rfl, rfl, _, _, rfl, rfl, (by show (0 : Int) < 2147483629; decide), ?_⟩
        refine ⟨_, rfl, b, _, 3, 3, rfl, rfl, hb2, rfl, ?_⟩
        rw [upd_upd]
        obtain ⟨z, hz⟩ : ∃ z, (x ^ Int.toNat 3 + 40503 * (c + 1) + x / 65537 + 11) % 2147483629 = z := ⟨_, rfl⟩
        have ez : (bagL sa i r x (c + 1)).set 3 ((fun i j => V.int (i % j)) (x ^ Int.toNat 3 + 40503 * (c + 1) + x / 65537 + 11) 2147483629) = bagL sa i r z (c + 1) := by rw [← hz]; rfl
        rw [ez]
        have z0 : 0 ≤ z := by rw [← hz]; exact Int.emod_nonneg _ (by decide)
        have z1 : z < 2147483648 := by
          have : z < 2147483629 := by rw [← hz]; exact Int.emod_lt_of_pos _ (by decide)
          omega
        have hb3 : upd H1 b (.lst (bagL sa i r z (c + 1))) b = some (.lst (bagL sa i r z (c + 1))) := upd_same
        refine ⟨_, rfl, b, _, 3, .int z, rfl, rfl, SqL.of hb3, rfl, z, 16, rfl, rfl, ⟨by decide, by decide⟩, _, rfl, _, top, rfl, rfl, ht0, ?_⟩
        refine q _ _ mv.upd ⟨ns, i, r, z, c + 1, upd_same, ?_, hne, hi, z0, z1⟩ (Int.emod_nonneg _ (by omega)) (Int.emod_lt_of_pos _ ht0)
        rw [upd_ne hne]
        exact hs
    · refine ⟨_, rfl, b, _, 2, .int r, rfl, rfl, SqL.of hb, rfl, _, rfl, r, top, rfl, rfl, _, rfl, ite2 (fun e => ?_) (fun e => ?_)⟩
      · refine ⟨_, rfl, b, _, 1, .int i, rfl, rfl, SqL.of hb, rfl, _, rfl, b, _, 0, .ref sa, rfl, rfl, SqL.of hb, rfl, sa, _, rfl, .inl (SqL.of hs), i, _, rfl, rfl, _, rfl, ite2 (fun e2 => ?_) (fun e2 => ?_)⟩
        · have hlt : i < (ns.length : Int) := by
            have := of_decide_eq_true e2
            rw [List.length_map] at this
            exact this
          obtain ⟨z, hz⟩ : ∃ z, ns[i.toNat]? = some z := ⟨_, List.getElem?_eq_getElem (by omega)⟩
          have hat : atI (ns.map V.int) i = some (.int z) := by
            have := atI_nat (xs := ns.map V.int) (j := i.toNat) (v := .int z) (by rw [List.getElem?_map, hz]; rfl)
            rwa [Int.toNat_of_nonneg hi] at this
          refine ⟨_, rfl, b, _, 0, .ref sa, rfl, rfl, SqL.of hb, rfl, _, rfl, b, _, 1, .int i, rfl, rfl, SqL.of hb, rfl, sa, _, i, _, rfl, rfl, SqL.of hs, hat, ?_⟩
          refine ⟨_, rfl, b, _, 1, .int i, rfl, rfl, SqL.of hb, rfl, i, 1, rfl, rfl, _, rfl, b, _, 1, 1, rfl, rfl, hb, rfl, ?_⟩
          have hb2 : upd H b (.lst (bagL sa (i + 1) r x c)) b = some (.lst (bagL sa (i + 1) r x c)) := upd_same
          refine ⟨_, rfl, b, _, 3, .int x, rfl, rfl, SqL.of hb2, rfl, x, 48271, rfl, rfl, .inr ⟨by decide, by decide⟩, _, rfl, _, z, rfl, rfl, ?_⟩
          refine ⟨_, rfl, b, _, 1, .int (i + 1), rfl, rfl, SqL.of hb2, rfl, _, _, rfl, rfl, _, _, rfl, rfl, (by show (0 : Int) < 2147483629; decide), ?_⟩
          refine ⟨_, rfl, b, _, 3, 3, rfl, rfl, hb2, rfl, ?_⟩
          rw [upd_upd]
          obtain ⟨y, hy⟩ : ∃ y, (x * 48271 + z + (i + 1)) % 2147483629 = y := ⟨_, rfl⟩
          have ey : (bagL sa (i + 1) r x c).set 3 ((fun i j => V.int (i % j)) (x * 48271 + z + (i + 1)) 2147483629) = bagL sa (i + 1) r y c := by rw [← hy]; rfl
          rw [ey]
          have y0 : 0 ≤ y := by rw [← hy]; exact Int.emod_nonneg _ (by decide)
          have y1 : y < 2147483648 := by
            have : y < 2147483629 := by rw [← hy]; exact Int.emod_lt_of_pos _ (by decide)
            omega
          have hb3 : upd H b (.lst (bagL sa (i + 1) r y c)) b = some (.lst (bagL sa (i + 1) r y c)) := upd_same
          have hne2 : ∀ o : HO, upd H b o sa = some (.lst (ns.map V.int)) := fun o => by
            rw [upd_ne hne]
            exact hs
          refine ⟨_, rfl, 10, 18, rfl, rfl, ⟨by decide, by decide, by decide⟩, z, _, rfl, rfl, _, rfl, ite2 (fun e3 => ?_) (fun e3 => ?_)⟩
          · refine ⟨_, rfl, _, rfl, b, _, 2, 2, rfl, rfl, hb3, rfl, ?_⟩
            rw [upd_upd]
            exact rest _ _ ⟨some (.int z), i + 1, z, y, c, rfl, upd_same, hne2 _, (Mv.refl _ _).upd, by omega, y0, y1⟩
          · refine ⟨_, rfl, b, _, 2, 2, rfl, rfl, hb3, rfl, ?_⟩
            rw [upd_upd]
            exact rest _ _ ⟨some (.int z), i + 1, 0, y, c, rfl, upd_same, hne2 _, (Mv.refl _ _).upd, by omega, y0, y1⟩
        · exact rest _ _ ⟨none, i, r, x, c, rfl, hb, hs, Mv.refl _ _, hi, hx0, hx1⟩
      · exact rest _ _ ⟨none, i, r, x, c, rfl, hb, hs, Mv.refl _ _, hi, hx0, hx1⟩
def spPickW : Sp := fun vs H Q _ => ∃ (b : Addr × Addr) (top : Int), vs = [.ref b.1, .int top] ∧ Bag b H ∧ 0 < top ∧ top ≤ 18446744073709551616 ∧ ∀ (H' : Hp) (d : Int), Mv b.1 H H' → Bag b H' → 0 ≤ d → d < top → Q (.int d) H'
theorem log_leW {z : Int} (h : z.natAbs < 2 ^ 65) : Nat.log2 z.natAbs < 9000 := by
  by_cases e : z.natAbs = 0
  · rw [e]
    decide
  · exact Nat.lt_trans ((Nat.log2_lt e).mpr h) (by decide)
theorem ok__law_pickW {f : Addr} {fd : FuncData} {k : Nat} (F : Fun K "_law_pick" "_law_pick" s__law_pick f fd) (n_len : mg "len" = none) : FnOk P w K mg base CX0 (k + 1) f fd ["_law_bag_here", "_law_top"] spPickW := by
  have sc := sc__law_pick
  refine F.ok sc (fun vs H Q E h => ?_) (fun cdv A outer s H vs Q E hr h => ?_)
  · obtain ⟨b, top, rfl, _⟩ := h
    rfl
  · obtain ⟨⟨b, sa⟩, top, rfl, ⟨ns, i, r, x, c, hb, hs, hne, hi, hx0, hx1⟩, ht0, ht1, q⟩ := h
    refine ⟨_, (pss_cons (ps_if (PW.pt (pw_and (pt_cmpR op_lt (pe_ix (ix_listK K rfl) (pv 0) pe_int (fun _ _ => rfl)) (pv 1) (nomark _)) (pw_and1 (pt_cmpR op_lt (pe_ix (ix_listK K rfl) (pv 0) pe_int (fun _ _ => rfl)) (pe_callB (call_lenK K rfl) (by rfl) n_len PySem.boot_len (pa_cons (pe_ix (ix_listK K rfl) (pv 0) pe_int (fun _ _ => rfl)) pa_nil)) (nomark _)))))
  (pss_cons (ps_set (i := 2) sc.nd rfl (.inl rfl) (pe_ix (ix_listK K rfl) (pe_ix (ix_listK K rfl) (pv 0) pe_int (fun _ _ => rfl)) (pe_ix (ix_listK K rfl) (pv 0) pe_int (fun _ _ => rfl)) (fun _ _ => rfl)))
 (pss_cons (ps_asg (pe_op op_add (pe_ix (ix_listK K rfl) (pv 0) pe_int (fun _ _ => rfl)) pe_int) (pg_sub (pv 0) pe_int set_list))
 (pss_cons (ps_asg (pe_op op_mod (pe_op op_add (pe_op op_add (pe_op op_mul (pe_ix (ix_listK K rfl) (pv 0) pe_int (fun _ _ => rfl)) pe_int) (pv 2)) (pe_ix (ix_listK K rfl) (pv 0) pe_int (fun _ _ => rfl))) pe_int) (pg_sub (pv 0) pe_int set_list))
 (pss_one (ps_asg (pe_ifExp (pt_cmpR op_ge (pv 2) (pe_op op_pow pe_int pe_int) (nomark _)) (pv 2) pe_int) (pg_sub (pv 0) pe_int set_list))))))
  pss_nil)
 (pss_cons (ps_if (pt_cmpR op_ge (pe_ix (ix_listK K rfl) (pv 0) pe_int (fun _ _ => rfl)) (pv 1) (nomark _))
  (pss_cons (ps_set (i := 3) sc.nd rfl (.inl rfl) (pe_op op_mod (pe_ix (ix_listK K rfl) (pv 0) pe_int (fun _ _ => rfl)) (pv 1)))
 (pss_cons (ps_asg (pe_op op_fdivW (pe_ix (ix_listK K rfl) (pv 0) pe_int (fun _ _ => rfl)) (pv 1)) (pg_sub (pv 0) pe_int set_list))
 (pss_one (ps_ret (pv 3)))))
  pss_nil)
 (pss_cons (ps_asg (pe_op op_add (pe_ix (ix_listK K rfl) (pv 0) pe_int (fun _ _ => rfl)) pe_int) (pg_sub (pv 0) pe_int set_list))
 (pss_cons (ps_asg (pe_op op_mod (pe_op op_add (pe_op op_add (pe_op op_add (pe_op op_pow (pe_ix (ix_listK K rfl) (pv 0) pe_int (fun _ _ => rfl)) pe_int) (pe_op op_mul pe_int (pe_ix (ix_listK K rfl) (pv 0) pe_int (fun _ _ => rfl)))) (pe_op op_fdivW (pe_ix (ix_listK K rfl) (pv 0) pe_int (fun _ _ => rfl)) pe_int)) pe_int) pe_int) (pg_sub (pv 0) pe_int set_list))
 (pss_one (ps_ret (pe_op op_mod (pe_op op_fdivW (pe_ix (ix_listK K rfl) (pv 0) pe_int (fun _ _ => rfl)) pe_int) (pv 1)))))))), ?_⟩
    refine seq_by (J := fun σ1 H1 => ∃ (y2 : Option V) (i r x c : Int), σ1 = [some (.ref b), some (.int top), y2, none] ∧ H1 b = some (.lst (bagL sa i r x c)) ∧ H1 sa = some (.lst (ns.map V.int)) ∧ Mv b H H1 ∧ 0 ≤ i ∧ 0 ≤ x ∧ x < 2147483648) ?_ (fun rest => ?_)
    · rintro σ1 H1 ⟨y2, i, r, x, c, rfl, hb, hs, mv, hi, hx0, hx1⟩
      refine ⟨_, rfl, b, _, 2, .int r, rfl, rfl, SqL.of hb, rfl, _, rfl, r, top, rfl, rfl, _, rfl, ite2 (fun e => ?_) (fun e => ?_)⟩
      · refine ⟨_, rfl, b, _, 2, .int r, rfl, rfl, SqL.of hb, rfl, _, rfl, r, top, rfl, rfl, ht0, ?_⟩
        refine ⟨_, rfl, b, _, 2, .int r, rfl, rfl, SqL.of hb, rfl, _, rfl, r, top, rfl, rfl, ⟨ht0, log_leW (by omega)⟩, ?_⟩
        refine ⟨_, rfl, b, _, 2, 2, rfl, rfl, hb, rfl, ?_⟩
        refine ⟨_, rfl, ?_⟩
        refine q _ _ mv.upd ⟨ns, i, _, x, c, upd_same, ?_, hne, hi, hx0, hx1⟩ (Int.emod_nonneg _ (by omega)) (Int.emod_lt_of_pos _ ht0)
        rw [upd_ne hne]
        exact hs
      · refine ⟨_, rfl, b, _, 4, .int c, rfl, rfl, SqL.of hb, rfl, c, 1, rfl, rfl, _, rfl, b, _, 4, 4, rfl, rfl, hb, rfl, ?_⟩
        have hb2 : upd H1 b (.lst (bagL sa i r x (c + 1))) b = some (.lst (bagL sa i r x (c + 1))) := upd_same
        refine ⟨_, rfl, b, _, 3, .int x, rfl, rfl, SqL.of hb2, rfl, x, 3, rfl, rfl, ⟨by decide, by decide, by omega⟩, ?_⟩
        refine ⟨_, rfl, b, _, 4, .int (c + 1), rfl, rfl, SqL.of hb2, rfl, 40503, c + 1, rfl, rfl, .inl ⟨by decide, by decide⟩, _, _, rfl, rfl, ?_⟩
        refine ⟨_, rfl, b, _, 3, .int x, rfl, rfl, SqL.of hb2, rfl, x, 65537, rfl, rfl, ⟨by decide, log_leW (by decide)⟩, _, _, rfl, rfl, _, _, rfl, rfl, _, _, rfl, rfl, (by show (0 : Int) < 2147483629; decide), ?_⟩
        refine ⟨_, rfl, b, _, 3, 3, rfl, rfl, hb2, rfl, ?_⟩
        rw [upd_upd]
        obtain ⟨z, hz⟩ : ∃ z, (x ^ Int.toNat 3 + 40503 * (c + 1) + x / 65537 + 11) % 2147483629 = z := ⟨_, rfl⟩
        have ez : (bagL sa i r x (c + 1)).set 3 ((fun i j => V.int (i % j)) (x ^ Int.toNat 3 + 40503 * (c + 1) + x / 65537 + 11) 2147483629) = bagL sa i r z (c + 1) := by rw [← hz]; rfl
        rw [ez]
        have z0 : 0 ≤ z := by rw [← hz]; exact Int.emod_nonneg _ (by decide)
        have z1 : z < 2147483648 := by
          have : z < 2147483629 := by rw [← hz]; exact Int.emod_lt_of_pos _ (by decide)
          omega
        have hb3 : upd H1 b (.lst (bagL sa i r z (c + 1))) b = some (.lst (bagL sa i r z (c + 1))) := upd_same
        refine ⟨_, rfl, b, _, 3, .int z, rfl, rfl, SqL.of hb3, rfl, z, 16, rfl, rfl, ⟨by decide, log_leW (by decide)⟩, _, rfl, _, top, rfl, rfl, ht0, ?_⟩
        refine q _ _ mv.upd ⟨ns, i, r, z, c + 1, upd_same, ?_, hne, hi, z0, z1⟩ (Int.emod_nonneg _ (by omega)) (Int.emod_lt_of_pos _ ht0)
        rw [upd_ne hne]
        exact hs
    · refine ⟨_, rfl, b, _, 2, .int r, rfl, rfl, SqL.of hb, rfl, _, rfl, r, top, rfl, rfl, _, rfl, ite2 (fun e => ?_) (fun e => ?_)⟩
      · refine ⟨_, rfl, b, _, 1, .int i, rfl, rfl, SqL.of hb, rfl, _, rfl, b, _, 0, .ref sa, rfl, rfl, SqL.of hb, rfl, sa, _, rfl, .inl (SqL.of hs), i, _, rfl, rfl, _, rfl, ite2 (fun e2 => ?_) (fun e2 => ?_)⟩
        · have hlt : i < (ns.length : Int) := by
            have := of_decide_eq_true e2
            rw [List.length_map] at this
            exact this
          obtain ⟨z, hz⟩ : ∃ z, ns[i.toNat]? = some z := ⟨_, List.getElem?_eq_getElem (by omega)⟩
          have hat : atI (ns.map V.int) i = some (.int z) := by
            have := atI_nat (xs := ns.map V.int) (j := i.toNat) (v := .int z) (by rw [List.getElem?_map, hz]; rfl)
            rwa [Int.toNat_of_nonneg hi] at this
          refine ⟨_, rfl, b, _, 0, .ref sa, rfl, rfl, SqL.of hb, rfl, _, rfl, b, _, 1, .int i, rfl, rfl, SqL.of hb, rfl, sa, _, i, _, rfl, rfl, SqL.of hs, hat, ?_⟩
          refine ⟨_, rfl, b, _, 1, .int i, rfl, rfl, SqL.of hb, rfl, i, 1, rfl, rfl, _, rfl, b, _, 1, 1, rfl, rfl, hb, rfl, ?_⟩
          have hb2 : upd H b (.lst (bagL sa (i + 1) r x c)) b = some (.lst (bagL sa (i + 1) r x c)) := upd_same
          refine ⟨_, rfl, b, _, 3, .int x, rfl, rfl, SqL.of hb2, rfl, x, 48271, rfl, rfl, .inr ⟨by decide, by decide⟩, _, rfl, _, z, rfl, rfl, ?_⟩
          refine ⟨_, rfl, b, _, 1, .int (i + 1), rfl, rfl, SqL.of hb2, rfl, _, _, rfl, rfl, _, _, rfl, rfl, (by show (0 : Int) < 2147483629; decide), ?_⟩
          refine ⟨_, rfl, b, _, 3, 3, rfl, rfl, hb2, rfl, ?_⟩
          rw [upd_upd]
          obtain ⟨y, hy⟩ : ∃ y, (x * 48271 + z + (i + 1)) % 2147483629 = y := ⟨_, rfl⟩
          have ey : (bagL sa (i + 1) r x c).set 3 ((fun i j => V.int (i % j)) (x * 48271 + z + (i + 1)) 2147483629) = bagL sa (i + 1) r y c := by rw [← hy]; rfl
          rw [ey]
          have y0 : 0 ≤ y := by rw [← hy]; exact Int.emod_nonneg _ (by decide)
          have y1 : y < 2147483648 := by
            have : y < 2147483629 := by rw [← hy]; exact Int.emod_lt_of_pos _ (by decide)
            omega
          have hb3 : upd H b (.lst (bagL sa (i + 1) r y c)) b = some (.lst (bagL sa (i + 1) r y c)) := upd_same
          have hne2 : ∀ o : HO, upd H b o sa = some (.lst (ns.map V.int)) := fun o => by
            rw [upd_ne hne]
            exact hs
          refine ⟨_, rfl, 10, 18, rfl, rfl, ⟨by decide, by decide, by decide⟩, z, _, rfl, rfl, _, rfl, ite2 (fun e3 => ?_) (fun e3 => ?_)⟩
          · refine ⟨_, rfl, _, rfl, b, _, 2, 2, rfl, rfl, hb3, rfl, ?_⟩
            rw [upd_upd]
            exact rest _ _ ⟨some (.int z), i + 1, z, y, c, rfl, upd_same, hne2 _, (Mv.refl _ _).upd, by omega, y0, y1⟩
          · refine ⟨_, rfl, b, _, 2, 2, rfl, rfl, hb3, rfl, ?_⟩
            rw [upd_upd]
            exact rest _ _ ⟨some (.int z), i + 1, 0, y, c, rfl, upd_same, hne2 _, (Mv.refl _ _).upd, by omega, y0, y1⟩
        · exact rest _ _ ⟨none, i, r, x, c, rfl, hb, hs, Mv.refl _ _, hi, hx0, hx1⟩
      · exact rest _ _ ⟨none, i, r, x, c, rfl, hb, hs, Mv.refl _ _, hi, hx0, hx1⟩
theorem sc__law_of : FnScope ["_law_bag_here", "_law_some"] ["_law_bag_here", "_law_some"] (defScope s__law_of) := ⟨rfl, rfl, rfl, by decide +kernel, rfl, by decide +kernel, by decide +kernel⟩
theorem ok__law_of {f : Addr} {fd : FuncData} {k : Nat} (F : Fun K "_law_of" "_law_of" s__law_of f fd) (n_len : mg "len" = none) (c__law_pick : Cal P w K mg base k "_law_pick" ["_law_bag_here", "_law_top"] spPick) : FnOk P w K mg base CX0 (k + 1) f fd ["_law_bag_here", "_law_some"] (spOf K) := by
  have sc := sc__law_of
  refine F.ok sc (fun vs H Q E h => ?_) (fun cdv A outer s H vs Q E hr h => ?_)
  · obtain ⟨b, l, xs, rfl, _⟩ := h
    rfl
  · obtain ⟨b, l, xs, rfl, hB, hne, hl, h0, h1, q⟩ := h
    refine ⟨_, (pss_one (ps_ret (pe_ix (ix_listK K rfl) (pv 1) (pe_callC c__law_pick hr (by rfl) (pa_cons (pv 0) (pa_cons (pe_callB (call_lenK K rfl) (by rfl) n_len PySem.boot_len (pa_cons (pv 1) pa_nil)) pa_nil))) (fun _ _ => rfl)))), ?_⟩
    refine ⟨_, rfl, _, rfl, _, rfl, l, xs, rfl, .inl (SqL.of hl), b, _, rfl, hB, by omega, by omega, fun H' d mv hB' d0 d1 => ?_⟩
    obtain ⟨v, hv⟩ : ∃ v, xs[d.toNat]? = some v := ⟨_, List.getElem?_eq_getElem (by omega)⟩
    have hat : atI xs d = some v := by
      have := atI_nat (xs := xs) (j := d.toNat) (v := v) hv
      rwa [Int.toNat_of_nonneg d0] at this
    exact ⟨l, xs, d, v, rfl, rfl, SqL.of (mv l _ hne hl), hat, q H' v mv hB' (List.mem_of_getElem? hv)⟩
theorem sc__law_same : FnScope ["_law_found", "_law_due", "_law_spot"] ["_law_found", "_law_due"] (defScope s__law_same) := ⟨rfl, rfl, rfl, by decide +kernel, rfl, by decide +kernel, by decide +kernel⟩
theorem ok__law_same {f : Addr} {fd : FuncData} (F : Fun K "_law_same" "_law_same" s__law_same f fd) (gS : mg "_law_same" = some (.ref f)) (bS : Binds K fd ["_law_found", "_law_due"] []) (n_len : mg "len" = none) (n_all : mg "all" = none) (n_bool : mg "bool" = none) (n_int : mg "int" = none)
    (n_isinstance : mg "isinstance" = none) (n_list : mg "list" = none) (n_range : mg "range" = none) (n_str : mg "str" = none) (n_tuple : mg "tuple" = none) : ∀ n : Nat, FnOk P w K mg base CX0 n f fd ["_law_found", "_law_due"] (spSame K n)
  | 0 => ⟨fun vs H Q E h => by obtain ⟨x, y, d, _, _, _, h, _⟩ := h; exact h.elim, fun A outer s H args us vs Q E hr e0 bt r h => by obtain ⟨x, y, d, _, _, _, h, _⟩ := h; exact h.elim⟩
  | n + 1 => by
    have c__law_same : Cal P w K mg base n "_law_same" ["_law_found", "_law_due"] (spSame K n) := ⟨f, fd, ok__law_same F gS bS n_len n_all n_bool n_int n_isinstance n_list n_range n_str n_tuple n, gS, F.kp, bS⟩
    have sc := sc__law_same
    refine F.ok sc (fun vs H Q E h => ?_) (fun cdv A outer s H vs Q E hr h => ?_)
    · obtain ⟨x, y, d, rfl, _⟩ := h
      rfl
    · obtain ⟨x, y, d, rfl, dx, dy, dn, sd, q⟩ := h
      have tx := ty_dp dx
      have ty := ty_dp dy
      refine ⟨_, (pss_cons (ps_if (pt_cmpR op_isN (pv 1) pe_non (nomark _))
  (pss_one (ps_ret (pe_cmpR op_isN (pv 0) pe_non (nomark _))))
  pss_nil)
 (pss_cons (ps_if (PW.pt (pw_or (pt_val (pe_callB (call_isiK1 K rfl) (by rfl) n_isinstance (by decide +kernel) (pa_cons (pv 1) (pa_cons (pe_bltn (v := .ty "bool") (by rfl) n_bool (by decide +kernel) rfl) pa_nil)))) (pw_or1 (pt_val (pe_callB (call_isiK1 K rfl) (by rfl) n_isinstance (by decide +kernel) (pa_cons (pv 0) (pa_cons (pe_bltn (v := .ty "bool") (by rfl) n_bool (by decide +kernel) rfl) pa_nil)))))))
  (pss_one (ps_ret (pe_and (pe_callB (call_isiK1 K rfl) (by rfl) n_isinstance (by decide +kernel) (pa_cons (pv 1) (pa_cons (pe_bltn (v := .ty "bool") (by rfl) n_bool (by decide +kernel) rfl) pa_nil))) (pe_and (pe_callB (call_isiK1 K rfl) (by rfl) n_isinstance (by decide +kernel) (pa_cons (pv 0) (pa_cons (pe_bltn (v := .ty "bool") (by rfl) n_bool (by decide +kernel) rfl) pa_nil))) (pe_one (pe_cmpR (op_eqDK K rfl hr.units) (pv 0) (pv 1) (nomark _)))))))
  pss_nil)
 (pss_cons (ps_if (pt_val (pe_callB (call_isiTK K rfl) (by rfl) n_isinstance (by decide +kernel) (pa_cons (pv 1) (pa_cons (pe_tup (pa_cons (pe_bltn (v := .ty "int") (by rfl) n_int (by decide +kernel) rfl) (pa_cons (pe_bltn (v := .ty "str") (by rfl) n_str (by decide +kernel) rfl) pa_nil))) pa_nil))))
  (pss_one (ps_ret (pe_and (pe_callB (call_isiTK K rfl) (by rfl) n_isinstance (by decide +kernel) (pa_cons (pv 0) (pa_cons (pe_tup (pa_cons (pe_bltn (v := .ty "int") (by rfl) n_int (by decide +kernel) rfl) (pa_cons (pe_bltn (v := .ty "str") (by rfl) n_str (by decide +kernel) rfl) pa_nil))) pa_nil))) (pe_and (pe_cmpR op_eq (pe_callB (call_isiK1 K rfl) (by rfl) n_isinstance (by decide +kernel) (pa_cons (pv 0) (pa_cons (pe_bltn (v := .ty "int") (by rfl) n_int (by decide +kernel) rfl) pa_nil))) (pe_callB (call_isiK1 K rfl) (by rfl) n_isinstance (by decide +kernel) (pa_cons (pv 1) (pa_cons (pe_bltn (v := .ty "int") (by rfl) n_int (by decide +kernel) rfl) pa_nil))) (nomark _)) (pe_one (pe_cmpR (op_eqDK K rfl hr.units) (pv 0) (pv 1) (nomark _)))))))
  pss_nil)
 (pss_cons (ps_if (PW.pt (pw_or (pt_cmpR op_ne (pe_callB (call_isiK1 K rfl) (by rfl) n_isinstance (by decide +kernel) (pa_cons (pv 1) (pa_cons (pe_bltn (v := .ty "list") (by rfl) n_list (by decide +kernel) rfl) pa_nil))) (pe_callB (call_isiK1 K rfl) (by rfl) n_isinstance (by decide +kernel) (pa_cons (pv 0) (pa_cons (pe_bltn (v := .ty "list") (by rfl) n_list (by decide +kernel) rfl) pa_nil))) (nomark _)) (pw_or1 (pt_cmpR op_ne (pe_callB (call_isiK1 K rfl) (by rfl) n_isinstance (by decide +kernel) (pa_cons (pv 1) (pa_cons (pe_bltn (v := .ty "tuple") (by rfl) n_tuple (by decide +kernel) rfl) pa_nil))) (pe_callB (call_isiK1 K rfl) (by rfl) n_isinstance (by decide +kernel) (pa_cons (pv 0) (pa_cons (pe_bltn (v := .ty "tuple") (by rfl) n_tuple (by decide +kernel) rfl) pa_nil))) (nomark _)))))
  (pss_one (ps_ret pe_bl))
  pss_nil)
 (pss_cons (ps_if (PW.pt (pw_or (pt_not (pt_val (pe_callB (call_isiTK K rfl) (by rfl) n_isinstance (by decide +kernel) (pa_cons (pv 0) (pa_cons (pe_tup (pa_cons (pe_bltn (v := .ty "list") (by rfl) n_list (by decide +kernel) rfl) (pa_cons (pe_bltn (v := .ty "tuple") (by rfl) n_tuple (by decide +kernel) rfl) pa_nil))) pa_nil))))) (pw_or1 (pt_cmpR op_ne (pe_callB (call_lenK K rfl) (by rfl) n_len PySem.boot_len (pa_cons (pv 0) pa_nil)) (pe_callB (call_lenK K rfl) (by rfl) n_len PySem.boot_len (pa_cons (pv 1) pa_nil)) (nomark _)))))
  (pss_one (ps_ret pe_bl))
  pss_nil)
 (pss_one (ps_ret (pe_callB (cr_allK K rfl rfl) (by rfl) n_all (by decide +kernel) (pa_cons (pe_lc (own := [("_law_spot", 2)]) (g := gName 2) (by rfl) sc.nd (pi_range1 (by rfl) n_range (pa_cons (pe_callB (call_lenK K rfl) (by rfl) n_len PySem.boot_len (pa_cons (pv 1) pa_nil)) pa_nil)) (blkOk_by (own := [("_law_spot", 2)]) (N := ["_law_found", "_law_due", "_law_spot"]) (sc := defScope s__law_same) (by decide +kernel)) (fun _ _ _ _ _ => (pg_name (i := 2) sc.nd rfl (Or.inl rfl))) (fun _ _ _ _ _ => pts_nil) (fun _ _ _ _ _ => (pe_callC c__law_same hr (by rfl) (pa_cons (pe_ix (ix_seqK K rfl) (pv 0) (pv 2) (fun _ _ => rfl)) (pa_cons (pe_ix (ix_seqK K rfl) (pv 1) (pv 2) (fun _ _ => rfl)) pa_nil))))) pa_nil))))))))), ?_⟩
      have er : PyData.eqv d d = true := SeqAt.eqv_refl d (SeqAt.canLay_of_shaped sd)
      rcases dn with ⟨b, rfl⟩ | ⟨i, rfl⟩ | ⟨z, rfl⟩ | rfl | ⟨ds, hd, hlen, hn⟩
      · have tx : TyX K H x (.type "bool") := tx
        have ty : TyX K H y (.type "bool") := ty
        have kb : PySem.W.kitOne K (.type "bool") (.type "bool") = some true := kit_ty (by decide +kernel)
        have dx' := dx
        have dy' := dy
        cases dx
        cases dy
        refine ⟨_, rfl, rfl, _, rfl, iteF ?_⟩
        refine ⟨_, rfl, _, _, _, _, true, rfl, .ty "bool", ty, kb, _, rfl, iteT ?_⟩
        refine iteT ?_
        refine ⟨_, rfl, _, _, _, _, true, rfl, .ty "bool", ty, kb, true, rfl, iteT ?_⟩
        refine ⟨_, rfl, _, _, _, _, true, rfl, .ty "bool", tx, kb, true, rfl, iteT ?_⟩
        refine ⟨_, rfl, _, rfl, .bool b, .bool b, dx', dy', sd, sd, ?_⟩
        rw [er]
        exact q _ (Same.refl _)
      · have tx : TyX K H x (.type "int") := tx
        have ty : TyX K H y (.type "int") := ty
        have kb : PySem.W.kitOne K (.type "int") (.type "bool") = some false := kit_ty (by decide +kernel)
        have ki : PySem.W.kitOne K (.type "int") (.type "int") = some true := kit_ty (by decide +kernel)
        have dx' := dx
        have dy' := dy
        cases dx
        cases dy
        refine ⟨_, rfl, rfl, _, rfl, iteF ?_⟩
        refine ⟨_, rfl, _, _, _, _, false, rfl, .ty "bool", ty, kb, _, rfl, iteF ?_⟩
        refine ⟨_, rfl, _, _, _, _, false, rfl, .ty "bool", tx, kb, _, rfl, iteF ?_⟩
        refine ⟨_, rfl, (by show 2 ≤ sizeLine; decide), fun p np => ?_⟩
        have s1 : Same H (upd H p (.tup [.ty "int", .ty "str"])) := same_upd np
        refine ⟨_, p, _, _, _, true, rfl, upd_same, .cons (.ty "int") (.cons (.ty "str") .nil), .base (.int i), kitAny_cons ki (fun z => nomatch z) (fun _ => rfl), _, rfl, iteT ?_⟩
        refine ⟨_, rfl, (by show 2 ≤ sizeLine; decide), fun p2 np2 => ?_⟩
        have s2 : Same _ (upd _ p2 (.tup [.ty "int", .ty "str"])) := same_upd np2
        refine ⟨_, p2, _, _, _, true, rfl, upd_same, .cons (.ty "int") (.cons (.ty "str") .nil), .base (.int i), kitAny_cons ki (fun z => nomatch z) (fun _ => rfl), true, rfl, iteT ?_⟩
        refine ⟨_, rfl, _, _, _, _, true, rfl, .ty "int", .base (.int i), ki, ?_⟩
        refine ⟨_, rfl, _, _, _, _, true, rfl, .ty "int", .base (.int i), ki, rfl, true, rfl, iteT ?_⟩
        refine ⟨_, rfl, _, rfl, .int i, .int i, .int i, .int i, sd, sd, ?_⟩
        rw [er]
        exact q _ (s1.trans s2)
      · have tx : TyX K H x (.type "str") := tx
        have ty : TyX K H y (.type "str") := ty
        have kb : PySem.W.kitOne K (.type "str") (.type "bool") = some false := kit_ty (by decide +kernel)
        have ki : PySem.W.kitOne K (.type "str") (.type "int") = some false := kit_ty (by decide +kernel)
        have ks : PySem.W.kitOne K (.type "str") (.type "str") = some true := kit_ty (by decide +kernel)
        have kk : PySem.W.kitAny K (.type "str") [.type "int", .type "str"] = some true := kitAny_cons ki (fun _ => kitAny_cons ks (fun z => nomatch z) (fun _ => rfl)) (fun z => nomatch z)
        cases dx
        cases dy
        refine ⟨_, rfl, rfl, _, rfl, iteF ?_⟩
        refine ⟨_, rfl, _, _, _, _, false, rfl, .ty "bool", ty, kb, _, rfl, iteF ?_⟩
        refine ⟨_, rfl, _, _, _, _, false, rfl, .ty "bool", tx, kb, _, rfl, iteF ?_⟩
        refine ⟨_, rfl, (by show 2 ≤ sizeLine; decide), fun p np => ?_⟩
        have s1 : Same H (upd H p (.tup [.ty "int", .ty "str"])) := same_upd np
        refine ⟨_, p, _, _, _, true, rfl, upd_same, .cons (.ty "int") (.cons (.ty "str") .nil), .base (.str z), kk, _, rfl, iteT ?_⟩
        refine ⟨_, rfl, (by show 2 ≤ sizeLine; decide), fun p2 np2 => ?_⟩
        have s2 : Same _ (upd _ p2 (.tup [.ty "int", .ty "str"])) := same_upd np2
        refine ⟨_, p2, _, _, _, true, rfl, upd_same, .cons (.ty "int") (.cons (.ty "str") .nil), .base (.str z), kk, true, rfl, iteT ?_⟩
        refine ⟨_, rfl, _, _, _, _, false, rfl, .ty "int", .base (.str z), ki, ?_⟩
        refine ⟨_, rfl, _, _, _, _, false, rfl, .ty "int", .base (.str z), ki, rfl, true, rfl, iteT ?_⟩
        refine ⟨_, rfl, _, rfl, .str z, .str z, .str z, .str z, sd, sd, ?_⟩
        rw [er]
        exact q _ (s1.trans s2)
      · cases dx
        cases dy
        refine ⟨_, rfl, rfl, _, rfl, iteT ?_⟩
        exact ⟨_, rfl, rfl, q _ (Same.refl _)⟩
      · -- a list or a tuple
        obtain ⟨ax, ay, xs, ys, nm, rfl, rfl, hsx, hsy, hax, hay, tx, ty, hnm, enm⟩ : ∃ (ax ay : Addr) (xs ys : List V) (nm : String), x = .ref ax ∧ y = .ref ay ∧ (SqL K H ax xs ∨ SqT K H ax xs) ∧ (SqL K H ay ys ∨ SqT K H ay ys) ∧ DpAll K H xs ds ∧ DpAll K H ys ds ∧
            TyX K H x (.type nm) ∧ TyX K H y (.type nm) ∧ (nm = "list" ∨ nm = "tuple") ∧ nm = tyN d := by
          rcases hd with rfl | rfl
          · cases dx with
            | lst h1 h2 =>
              cases dy with
              | lst h3 h4 => exact ⟨_, _, _, _, "list", rfl, rfl, .inl h1, .inl h3, h2, h4, tx, ty, .inl rfl, rfl⟩
          · cases dx with
            | tup h1 h2 =>
              cases dy with
              | tup h3 h4 => exact ⟨_, _, _, _, "tuple", rfl, rfl, .inr h1, .inr h3, h2, h4, tx, ty, .inr rfl, rfl⟩
        have kb : PySem.W.kitOne K (.type nm) (.type "bool") = some false := by rcases hnm with rfl | rfl <;> exact kit_ty (by decide +kernel)
        have ki : PySem.W.kitOne K (.type nm) (.type "int") = some false := by rcases hnm with rfl | rfl <;> exact kit_ty (by decide +kernel)
        have ks : PySem.W.kitOne K (.type nm) (.type "str") = some false := by rcases hnm with rfl | rfl <;> exact kit_ty (by decide +kernel)
        obtain ⟨bl, kl⟩ : ∃ bl, PySem.W.kitOne K (.type nm) (.type "list") = some bl := by
          rcases hnm with rfl | rfl
          · exact ⟨true, kit_ty (by decide +kernel)⟩
          · exact ⟨false, kit_ty (by decide +kernel)⟩
        obtain ⟨bt, kt⟩ : ∃ bt, PySem.W.kitOne K (.type nm) (.type "tuple") = some bt := by
          rcases hnm with rfl | rfl
          · exact ⟨false, kit_ty (by decide +kernel)⟩
          · exact ⟨true, kit_ty (by decide +kernel)⟩
        have kk : PySem.W.kitAny K (.type nm) [.type "int", .type "str"] = some false := kitAny_cons ki (fun _ => kitAny_cons ks (fun _ => rfl) (fun z => nomatch z)) (fun z => nomatch z)
        have kq : PySem.W.kitAny K (.type nm) [.type "list", .type "tuple"] = some true := by
          rcases hnm with rfl | rfl
          · exact kitAny_cons (b := true) (kit_ty (by decide +kernel)) (fun z => nomatch z) (fun _ => rfl)
          · exact kitAny_cons (b := false) (kit_ty (by decide +kernel)) (fun _ => kitAny_cons (b := true) (kit_ty (by decide +kernel)) (fun z => nomatch z) (fun _ => rfl)) (fun z => nomatch z)
        have typ : ∀ {H' : Hp} {v : V}, Same H H' → TyX K H v (.type nm) → (v = .ref ax ∨ v = .ref ay) → TyX K H' v (.type nm) := by
          intro H' v sm h hv
          rw [enm]
          rcases hv with rfl | rfl
          · exact ty_dp (dp_same sm dx)
          · exact ty_dp (dp_same sm dy)
        refine ⟨_, rfl, rfl, _, rfl, iteF ?_⟩
        refine ⟨_, rfl, _, _, _, _, false, rfl, .ty "bool", ty, kb, _, rfl, iteF ?_⟩
        refine ⟨_, rfl, _, _, _, _, false, rfl, .ty "bool", tx, kb, _, rfl, iteF ?_⟩
        refine ⟨_, rfl, (by show 2 ≤ sizeLine; decide), fun p np => ?_⟩
        have s1 : Same H (upd H p (.tup [.ty "int", .ty "str"])) := same_upd np
        refine ⟨_, p, _, _, _, false, rfl, upd_same, .cons (.ty "int") (.cons (.ty "str") .nil), typ s1 ty (.inr rfl), kk, _, rfl, iteF ?_⟩
        refine ⟨_, rfl, _, _, _, _, bl, rfl, .ty "list", typ s1 ty (.inr rfl), kl, ?_⟩
        refine ⟨_, rfl, _, _, _, _, bl, rfl, .ty "list", typ s1 tx (.inl rfl), kl, rfl, _, rfl, ifF (by simp) ?_⟩
        refine ⟨_, rfl, _, _, _, _, bt, rfl, .ty "tuple", typ s1 ty (.inr rfl), kt, ?_⟩
        refine ⟨_, rfl, _, _, _, _, bt, rfl, .ty "tuple", typ s1 tx (.inl rfl), kt, rfl, _, rfl, ifF (by simp) ?_⟩
        refine ⟨_, rfl, (by show 2 ≤ sizeLine; decide), fun p2 np2 => ?_⟩
        have s2 : Same H _ := s1.trans (same_upd (o := .tup [.ty "list", .ty "tuple"]) np2)
        refine ⟨_, p2, _, _, _, true, rfl, upd_same, .cons (.ty "list") (.cons (.ty "tuple") .nil), typ s2 tx (.inl rfl), kq, _, rfl, iteF ?_⟩
        have sq2 : ∀ {H' : Hp} {a : Addr} {zs : List V}, Same H H' → (SqL K H a zs ∨ SqT K H a zs) → (SqL K H' a zs ∨ SqT K H' a zs) := fun sm h => h.elim (fun z => .inl (sm.seq z)) (fun z => .inr (same_t sm z))
        refine ⟨_, rfl, ax, xs, rfl, sq2 s2 hsx, _, rfl, ay, ys, rfl, sq2 s2 hsy, rfl, _, rfl, ifF (by rw [dpa_len hax, dpa_len hay]; simp) ?_⟩
        refine ⟨_, rfl, ay, ys, rfl, sq2 s2 hsy, _, rfl, ?_, ?_, fun D nD => lc_range (lo := 0) (n := ((ys.length : Int)).toNat) (fun i H' => Same H H' ∧ H' D = some (.lst ((List.replicate i true).map V.bl))) ?_ ?_ ?_⟩
        · rw [dpa_len hay]
          omega
        · rw [dpa_len hay]
          omega
        · exact ⟨s2.trans (same_upd nD), upd_same⟩
        · rintro i H' hi ⟨sm, eD⟩
          rw [Int.toNat_natCast] at hi
          have hds : i < ds.length := by rw [← dpa_len hay]; exact hi
          obtain ⟨vx, gx, dvx⟩ := dpa_get hax (List.getElem?_eq_getElem hds)
          obtain ⟨vy, gy, dvy⟩ := dpa_get hay (List.getElem?_eq_getElem hds)
          have ix : ∀ {a : Addr} {zs : List V} {v : V} {Q' : VK}, (SqL K H a zs ∨ SqT K H a zs) → zs[i]? = some v → Q' v H' → rIx K (.ref a) (.int (0 + (i : Int))) H' Q' := by
            intro a zs v Q' h g q'
            have e : atI zs (0 + (i : Int)) = some v := by rw [Int.zero_add]; exact atI_nat g
            rcases sq2 sm h with h | h
            · exact .inl ⟨a, zs, _, v, rfl, rfl, h, e, q'⟩
            · exact .inr (.inl ⟨a, zs, _, v, rfl, rfl, h, e, q'⟩)
          refine ⟨rfl, tYes_by (iteT ?_)⟩
          refine ⟨_, rfl, _, rfl, ix hsx gx ?_⟩
          refine ⟨_, rfl, _, rfl, ix hsy gy ?_⟩
          refine ⟨vx, vy, ds[i], rfl, dp_same sm dvx, dp_same sm dvy, hn _ (List.getElem_mem hds), ?_, fun H2 s4 => ?_⟩
          · exact shaped_mem (List.getElem_mem hds) (hd.elim (fun z => .inl (z ▸ sd)) (fun z => .inr (z ▸ sd)))
          · refine ⟨_, s4 _ _ eD, ?_, ?_, ?_⟩
            · rw [List.length_map, List.length_replicate]
              exact Nat.lt_of_lt_of_le (show i < 100000 by omega) (by decide)
            · exact same_mut (sm.trans s4) (s2.free nD)
            · rw [upd_same, List.replicate_succ', List.map_append]
              rfl
        · rintro H' ⟨sm, eD⟩
          refine ⟨D, _, rfl, SqL.of eD, ?_⟩
          have e : (List.replicate ((ys.length : Int)).toNat true).all id = true := by simp
          rw [e]
          exact q _ sm
theorem sc__law_far : FnScope ["_law_bag_here", "_law_figure"] ["_law_bag_here"] (defScope s__law_far) := ⟨rfl, rfl, rfl, by decide +kernel, rfl, by decide +kernel, by decide +kernel⟩
/-- any number -/
def spFar : Sp := fun vs H Q _ => ∃ (b : Addr × Addr), vs = [.ref b.1] ∧ Bag b H ∧ ∀ (H' : Hp) (z : Int), Mv b.1 H H' → Bag b H' → z.natAbs ≤ 1000000000000 → Q (.int z) H'
theorem ok__law_far {f : Addr} {fd : FuncData} {k : Nat} (F : Fun K "_law_far" "_law_far" s__law_far f fd) (c__law_pick : Cal P w K mg base k "_law_pick" ["_law_bag_here", "_law_top"] spPickW) : FnOk P w K mg base CX0 (k + 1) f fd ["_law_bag_here"] spFar := by
  have sc := sc__law_far
  refine F.ok sc (fun vs H Q E h => ?_) (fun cdv A outer s H vs Q E hr h => ?_)
  · obtain ⟨b, rfl, _⟩ := h
    rfl
  · obtain ⟨b, rfl, hB, q⟩ := h
    refine ⟨_, (pss_cons (ps_set (i := 1) sc.nd rfl (.inl rfl) (pe_callC c__law_pick hr (by rfl) (pa_cons (pv 0) (pa_cons (pe_op op_pow pe_int pe_int) pa_nil))))
 (pss_one (ps_ret (pe_ifExp (pt_cmpR op_eq (pe_callC c__law_pick hr (by rfl) (pa_cons (pv 0) (pa_cons pe_int pa_nil))) pe_int (nomark _)) (pv 1) (pe_op op_sub (pe_un un_neg pe_int) (pv 1)))))), ?_⟩
    refine ⟨_, rfl, 10, 12, rfl, rfl, ⟨by decide, by decide, by decide⟩, b, _, rfl, hB, by decide, by decide, fun H1 d mv1 hB1 d0 d1 => ?_⟩
    have d1 : d < 1000000000000 := d1
    refine ⟨_, rfl, b, 2, rfl, hB1, by decide, by decide, fun H2 e mv2 hB2 e0 e1 => ?_⟩
    refine ⟨rfl, _, rfl, ite2 (fun z => ?_) (fun z => ?_)⟩
    · exact ⟨_, rfl, q H2 d (mv1.trans mv2) hB2 (by omega)⟩
    · exact ⟨1, rfl, _, rfl, _, _, rfl, rfl, q H2 _ (mv1.trans mv2) hB2 (by omega)⟩
theorem sc__law_shares : FnScope ["_law_bag_here", "_law_k"] ["_law_bag_here"] (defScope s__law_shares) := ⟨rfl, rfl, rfl, by decide +kernel, rfl, by decide +kernel, by decide +kernel⟩
/-- shares: a new tuple of at most four small numbers -/
def spShares (K : PySem.W.Frag) : Sp := fun vs H Q _ => ∃ (b : Addr × Addr), vs = [.ref b.1] ∧ Bag b H ∧ ∀ (H' : Hp) (t : Addr) (ws : List Int), Mv b.1 H H' → Bag b H' → H t = none → H' t = some (.tup (ws.map V.int)) → ws.length ≤ 4 → (∀ x ∈ ws, small x) → Q (.ref t) H'
theorem ok__law_shares {f : Addr} {fd : FuncData} {k : Nat} (F : Fun K "_law_shares" "_law_shares" s__law_shares f fd) (n_range : mg "range" = none) (n_tuple : mg "tuple" = none) (c__law_pick : Cal P w K mg base k "_law_pick" ["_law_bag_here", "_law_top"] spPick) : FnOk P w K mg base CX0 (k + 1) f fd ["_law_bag_here"] (spShares K) := by
  have sc := sc__law_shares
  refine F.ok sc (fun vs H Q E h => ?_) (fun cdv A outer s H vs Q E hr h => ?_)
  · obtain ⟨b, rfl, _⟩ := h
    rfl
  · obtain ⟨b, rfl, hB, q⟩ := h
    refine ⟨_, (pss_cons (ps_if (pt_cmpR op_eq (pe_callC c__law_pick hr (by rfl) (pa_cons (pv 0) (pa_cons pe_int pa_nil))) pe_int (nomark _))
  (pss_one (ps_ret (pe_tup pa_nil)))
  pss_nil)
 (pss_one (ps_ret (pe_callTy (call_tupleK K rfl) (by rfl) n_tuple (by decide +kernel) (pa_cons (pe_lc (own := [("_law_k", 1)]) (g := gName 1) (by rfl) sc.nd (pi_range1 (by rfl) n_range (pa_cons (pe_op op_add pe_int (pe_callC c__law_pick hr (by rfl) (pa_cons (pv 0) (pa_cons pe_int pa_nil)))) pa_nil)) (blkOk_by (own := [("_law_k", 1)]) (N := ["_law_bag_here", "_law_k"]) (sc := defScope s__law_shares) (by decide +kernel)) (fun _ _ _ _ _ => (pg_name (i := 1) sc.nd rfl (Or.inl rfl))) (fun _ _ _ _ _ => pts_nil) (fun _ _ _ _ _ => (pe_op op_sub (pe_callC c__law_pick hr (by rfl) (pa_cons (pv 0) (pa_cons pe_int pa_nil))) pe_int))) pa_nil))))), ?_⟩
    refine ⟨_, rfl, b, 5, rfl, hB, by decide, by decide, fun H1 d mv1 hB1 d0 d1 => ⟨rfl, _, rfl, ite2 (fun e => ?_) (fun e => ?_)⟩⟩
    · refine ⟨Nat.zero_le _, fun t nt => ?_⟩
      have s2 := same_upd (o := .tup []) nt
      exact q _ t [] (mv1.trans (Mv.of s2)) (hB1.same s2) (mv1.none (hB1.ne nt) nt) upd_same (by decide) (fun x hx => absurd hx List.not_mem_nil)
    · refine ⟨_, rfl, b, 4, rfl, hB1, by decide, by decide, fun H2 m mv2 hB2 m0 m1 => ⟨_, _, rfl, rfl, _, rfl, by omega, by omega, fun D nD => ?_⟩⟩
      have mv02 := mv1.trans mv2
      refine lc_range (lo := 0) (n := (1 + m).toNat) (fun i H' => ∃ ns : List Int, Mv b.1 H2 H' ∧ Bag b H' ∧ H' D = some (.lst (ns.map V.int)) ∧ (∀ x ∈ ns, small x) ∧ ns.length = i) ⟨[], Mv.of (same_upd nD), hB2.same (same_upd nD), upd_same, (fun x hx => absurd hx List.not_mem_nil), rfl⟩ ?_ ?_
      · rintro i H3 hi ⟨ns, mv3, hB3, eD, hsm, hl⟩
        refine ⟨rfl, tYes_by (iteT ?_)⟩
        refine ⟨_, rfl, b, 7, rfl, hB3, by decide, by decide, fun H4 y mv4 hB4 y0 y1 => ⟨_, _, rfl, rfl, ?_⟩⟩
        have neD : D ≠ b.1 := hB2.ne nD
        refine ⟨_, mv4 _ _ neD eD, ?_, ns ++ [y - 3], ?_, hB4.upd neD (hB2.ne2 nD), ?_, ?_, by simp [hl]⟩
        · rw [List.length_map, hl]
          exact sz4l (by omega)
        · intro a o ne ha
          rw [upd_ne (ne_of_none ha nD)]
          exact mv4 a o ne (mv3 a o ne ha)
        · rw [upd_same, List.map_append]
          rfl
        · intro x hx
          rcases List.mem_append.mp hx with z | z
          · exact hsm x z
          · rw [List.mem_singleton.mp z]
            unfold small
            omega
      · rintro H3 ⟨ns, mv3, hB3, eD, hsm, hl⟩
        refine ⟨D, _, rfl, .inl ⟨SqL.of eD, fun t nt => ?_⟩⟩
        have s4 := same_upd (o := .tup (ns.map V.int)) nt
        have mv03 := mv02.trans mv3
        exact q _ t ns (mv03.trans (Mv.of s4)) (hB3.same s4) (mv03.none (hB3.ne nt) nt) upd_same (by omega) hsm
theorem at_last {xs : List V} {v : V} {n : Nat} (hl : xs.length = n + 1) (h : xs[n]? = some v) : atI xs (-1) = some v := by
  have e : ixN (n + 1) (-1) = some n := by
    unfold ixN
    rw [if_neg (by omega), if_pos (by omega)]
    congr 1
    omega
  unfold atI
  rw [hl, e]
  exact h
theorem sc__law_trimmed : FnScope ["_law_figures", "_law_found"] ["_law_figures"] (defScope s__law_trimmed) := ⟨rfl, rfl, rfl, by decide +kernel, rfl, by decide +kernel, by decide +kernel⟩
def spTrim (K : PySem.W.Frag) : Sp := fun vs H Q _ => ∃ (a : Addr) (k : Bool) (ns : List Int), vs = [.ref a] ∧ SqK K k H a (ns.map V.int) ∧ ns.length ≤ 10000 ∧ ∀ (H' : Hp) (t : Addr), Same H H' → H t = none → H' t = some (.tup ((trimS ns).map V.int)) → Q (.ref t) H'
theorem ok__law_trimmed {f : Addr} {fd : FuncData} {k : Nat} (F : Fun K "_law_trimmed" "_law_trimmed" s__law_trimmed f fd) (n_list : mg "list" = none) (n_tuple : mg "tuple" = none) : FnOk P w K mg base CX0 (k + 1) f fd ["_law_figures"] (spTrim K) := by
  have sc := sc__law_trimmed
  refine F.ok sc (fun vs H Q E h => ?_) (fun cdv A outer s H vs Q E hr h => ?_)
  · obtain ⟨a, kk, ns, rfl, _⟩ := h
    rfl
  · obtain ⟨a, kk, ns, rfl, hS, hlen, q⟩ := h
    refine ⟨_, (pss_cons (ps_set (i := 1) sc.nd rfl (.inl rfl) (pe_callTy (call_listK K rfl) (by rfl) n_list (by decide +kernel) (pa_cons (pv 0) pa_nil)))
 (pss_cons (ps_while PassesOwn.never (PW.pt (pw_and (pt_cmpR (op_neDK K rfl hr.units) (pv 1) (pe_lst pa_nil) (nomark _)) (pw_and1 (pt_cmpR op_eq (pe_ix (ix_listK K rfl) (pv 1) (pe_un un_neg pe_int) (fun _ _ => rfl)) pe_int (nomark _)))))
  (pss_one (ps_expr (pe_bm0K K rfl PySem.F.plainAttrs_list PySem.F.slot_list_pop PySem.F.type_list_pop mt_pop (pv 1)))))
 (pss_one (ps_ret (pe_callTy (call_tupleK K rfl) (by rfl) n_tuple (by decide +kernel) (pa_cons (pv 1) pa_nil)))))), ?_⟩
    refine ⟨_, rfl, a, _, rfl, SqK.or hS, fun p np => ?_⟩
    have s1 := same_upd (o := .lst (ns.map V.int)) np
    have e1 : upd H p (.lst (ns.map V.int)) p = some (.lst (ns.map V.int)) := upd_same
    generalize upd H p (.lst (ns.map V.int)) = H1 at s1 e1 ⊢
    refine name_by ?_
    dsimp only
    refine seq_by (J := fun σ1 H2 => ∃ m : List Int, σ1 = [some (.ref a), some (.ref p)] ∧ Same H H2 ∧ H2 p = some (.lst (m.map V.int)) ∧ m = trimS ns) ?_ (fun rest => ?_)
    · rintro σ1 H2 ⟨m, rfl, s2, e2, rfl⟩
      refine ⟨_, rfl, p, _, rfl, .inl ⟨SqL.of e2, fun t nt => ?_⟩⟩
      exact q _ t (s2.trans (same_upd nt)) (s2.free nt) upd_same
    · refine while_w (fun σ H' => ∃ m : List Int, σ = [some (.ref a), some (.ref p)] ∧ Same H H' ∧ H' p = some (.lst (m.map V.int)) ∧ trimS m = trimS ns ∧ m.length ≤ ns.length) (fun _ H' => match H' p with | some (.lst l) => l.length | _ => 0) ⟨ns, rfl, s1, e1, rfl, Nat.le_refl _⟩ ?_
      rintro σ H2 ⟨m, rfl, s2, e2, hm, hml⟩
      refine ⟨_, rfl, Nat.zero_le _, fun p3 n3 => ?_⟩
      have s3 := same_upd (o := .lst []) n3
      have e3 := s3 _ _ e2
      refine ⟨_, _, dp_ints (SqL.of e3), dp_ints (ns := []) (SqL.of upd_same), shaped_ints _, shaped_ints _, ?_⟩
      rw [eqv_ints]
      have s23 := s2.trans s3
      generalize upd H2 p3 (.lst []) = H3 at s3 e3 s23 ⊢
      have mu : (match H2 p with | some (.lst l) => l.length | _ => 0) = m.length := by rw [e2]; exact List.length_map ..
      refine ⟨_, rfl, ite2 (fun e => ?_) (fun e => ?_)⟩
      · have e : m ≠ [] := fun z => by rw [z] at e; cases e
        obtain ⟨r, x, rfl⟩ : ∃ r x, m = r ++ [x] := ⟨m.dropLast, m.getLast e, (List.dropLast_concat_getLast e).symm⟩
        have hl : ((r ++ [x]).map V.int).length = r.length + 1 := by simp
        have hg : ((r ++ [x]).map V.int)[r.length]? = some (.int x) := by simp
        refine ⟨_, rfl, 1, rfl, p, _, _, _, rfl, rfl, SqL.of e3, at_last hl hg, rfl, _, rfl, ite2 (fun e4 => ?_) (fun e4 => ?_)⟩
        · have e4 : x = 0 := eq_t e4
          subst e4
          refine ⟨wN _ _ _, wN_ok, ?_⟩
          have em : (r ++ [(0 : Int)]).map V.int = r.map V.int ++ [.int 0] := by rw [List.map_append]; rfl
          rw [em] at e3
          refine ⟨_, rfl, .inl ⟨rfl, _, SqL.of e3⟩, p, _, .int 0, rfl, rfl, e3, by simp, ?_⟩
          rw [List.dropLast_concat]
          refine ⟨⟨r, rfl, fun a o e => ?_, upd_same, by rw [← hm, trimS_zero], by rw [List.length_append] at hml; omega⟩, ?_⟩
          · rw [upd_ne (ne_of_none e np)]
            exact s23 a o e
          · rw [mu]
            dsimp only
            rw [upd_same]
            show (r.map V.int).length < _
            rw [List.length_map, List.length_append]
            exact Nat.lt_succ_self _
        · have e4 : x ≠ 0 := eq_f e4
          exact rest _ _ ⟨_, rfl, s23, e3, by rw [← hm, trimS_last e4]⟩
      · have e : m = [] := by
          by_cases z : m = []
          · exact z
          · exact absurd (by rw [decide_eq_false z]; rfl) e
        subst e
        exact iteF (rest _ _ ⟨[], rfl, s23, e3, by rw [← hm]; rfl⟩)
theorem sc__law_tone : FnScope ["_law_bag_here", "_law_close"] ["_law_bag_here"] (defScope s__law_tone) := ⟨rfl, rfl, rfl, by decide +kernel, rfl, by decide +kernel, by decide +kernel⟩
def spTone : Sp := fun vs H Q _ => ∃ (b : Addr × Addr), vs = [.ref b.1] ∧ Bag b H ∧ ∀ (H' : Hp) (z : Int), Mv b.1 H H' → Bag b H' → z.natAbs ≤ 1000000000000 → Q (.int z) H'
theorem ok__law_tone {f : Addr} {fd : FuncData} {k : Nat} (F : Fun K "_law_tone" "_law_tone" s__law_tone f fd) (c__law_pick : Cal P w K mg base k "_law_pick" ["_law_bag_here", "_law_top"] spPick) (c__law_of : Cal P w K mg base k "_law_of" ["_law_bag_here", "_law_some"] (spOf K)) (c__law_far : Cal P w K mg base k "_law_far" ["_law_bag_here"] spFar) : FnOk P w K mg base CX0 (k + 1) f fd ["_law_bag_here"] spTone := by
  have sc := sc__law_tone
  refine F.ok sc (fun vs H Q E h => ?_) (fun cdv A outer s H vs Q E hr h => ?_)
  · obtain ⟨b, rfl, _⟩ := h
    rfl
  · obtain ⟨b, rfl, hB, q⟩ := h
    refine ⟨_, (pss_cons (ps_set (i := 1) sc.nd rfl (.inl rfl) (pe_op op_sub (pe_callC c__law_pick hr (by rfl) (pa_cons (pv 0) (pa_cons pe_int pa_nil))) pe_int))
 (pss_one (ps_ret (pe_callC c__law_of hr (by rfl) (pa_cons (pv 0) (pa_cons (pe_lst (pa_cons (pv 1) (pa_cons (pv 1) (pa_cons pe_int (pa_cons pe_int (pa_cons (pe_callC c__law_far hr (by rfl) (pa_cons (pv 0) pa_nil)) pa_nil)))))) pa_nil)))))), ?_⟩
    refine ⟨_, rfl, b, 300, rfl, hB, by decide, by decide, fun H1 d mv1 hB1 d0 d1 => ⟨_, _, rfl, rfl, ?_⟩⟩
    refine name_by ?_
    dsimp only
    refine ⟨_, rfl, _, rfl, _, rfl, _, rfl, b, rfl, hB1, fun H2 z mv2 hB2 hz => ⟨(by show 5 ≤ sizeLine; decide), fun p np => ?_⟩⟩
    have h3 : SH b _ _ := (SH.nil hB2).new (o := .lst [.int (d - 150), .int (d - 150), .int 0, .int 1000, .int z]) np
    refine ⟨b, p, _, rfl, h3.bag, h3.ne (.head _), h3.get (.head _), (by show 0 < 5; decide), (by show 5 < 1000; decide), fun H4 v mv4 hB4 hv => ?_⟩
    have m4 := ((mv1.trans mv2).trans (Mv.of (same_upd np))).trans mv4
    rcases List.mem_cons.mp hv with rfl | hv
    · exact q H4 _ m4 hB4 (by omega)
    rcases List.mem_cons.mp hv with rfl | hv
    · exact q H4 _ m4 hB4 (by omega)
    rcases List.mem_cons.mp hv with rfl | hv
    · exact q H4 0 m4 hB4 (by decide)
    rcases List.mem_cons.mp hv with rfl | hv
    · exact q H4 1000 m4 hB4 (by decide)
    · rw [List.mem_singleton.mp hv]
      exact q H4 z m4 hB4 hz
theorem sc__law_bad_shares : FnScope ["_law_bag_here", "_law_good", "_law_at", "_law_odd", "_law_k"] ["_law_bag_here"] (defScope s__law_bad_shares) := ⟨rfl, rfl, rfl, by decide +kernel, rfl, by decide +kernel, by decide +kernel⟩
/-- bad shares: a new tuple that is not right -/
def spBadSh : Sp := fun vs H Q _ => ∃ (b : Addr × Addr), vs = [.ref b.1] ∧ Bag b H ∧ ∀ (H' : Hp) (t : Addr) (ws : List Int), Mv b.1 H H' → Bag b H' → H t = none → H' t = some (.tup (ws.map V.int)) → ws.length ≤ 10 → ¬ okSh ws → Q (.ref t) H'
theorem bad_long {ws : List Int} (h : ws.length = 4) : ¬ okSh (ws ++ [1]) := fun ⟨h1, _⟩ => by
  rw [trimS_last (by decide), List.length_append, h] at h1
  exact absurd h1 (by decide)
theorem mem_trim {x : Int} (hx : x ≠ 0) : ∀ {l : List Int}, x ∈ l → x ∈ trimS l
  | [], h => nomatch h
  | y :: r, h => by
    unfold trimS
    rcases List.mem_cons.mp h with rfl | h
    · rw [if_neg (fun c => hx c.2)]
      exact .head _
    · have := mem_trim hx h
      rw [if_neg (fun c => by rw [c.1] at this; exact nomatch this)]
      exact .tail _ this
theorem bad_mem {ws : List Int} {x : Int} (h : x ∈ ws) (hx : x < -3 ∨ 3 < x) : ¬ okSh ws := fun ⟨_, h2⟩ => by
  have := h2 x (mem_trim (by omega) h)
  unfold small at this
  omega
theorem ok__law_bad_shares {f : Addr} {fd : FuncData} {k : Nat} (F : Fun K "_law_bad_shares" "_law_bad_shares" s__law_bad_shares f fd) (n_range : mg "range" = none) (n_tuple : mg "tuple" = none) (c__law_pick : Cal P w K mg base k "_law_pick" ["_law_bag_here", "_law_top"] spPick) (c__law_of : Cal P w K mg base k "_law_of" ["_law_bag_here", "_law_some"] (spOf K)) : FnOk P w K mg base CX0 (k + 1) f fd ["_law_bag_here"] spBadSh := by
  have sc := sc__law_bad_shares
  refine F.ok sc (fun vs H Q E h => ?_) (fun cdv A outer s H vs Q E hr h => ?_)
  · obtain ⟨b, rfl, _⟩ := h
    rfl
  · obtain ⟨b, rfl, hB, q⟩ := h
    refine ⟨_, (pss_cons (ps_setLc (i := 1) (own := [("_law_k", 4)]) (g := gName 4) (by rfl) sc.nd rfl rfl (sw_true rfl rfl rfl (by decide +kernel)) (pi_range1 (by rfl) n_range (pa_cons pe_int pa_nil)) (blkOk_by (own := [("_law_k", 4)]) (N := ["_law_bag_here", "_law_good", "_law_at", "_law_odd", "_law_k"]) (sc := defScope s__law_bad_shares) (by decide +kernel)) (fun _ _ _ _ _ => (pg_name (i := 4) sc.nd rfl (Or.inl rfl))) (fun _ _ _ _ _ => pts_nil) (fun _ _ _ _ _ => (pe_op op_sub (pe_callC c__law_pick hr (by rfl) (pa_cons (pv 0) (pa_cons pe_int pa_nil))) pe_int)))
 (pss_cons (ps_set (i := 2) sc.nd rfl (.inl rfl) (pe_callC c__law_pick hr (by rfl) (pa_cons (pv 0) (pa_cons pe_int pa_nil))))
 (pss_cons (ps_set (i := 3) sc.nd rfl (.inl rfl) (pe_callC c__law_of hr (by rfl) (pa_cons (pv 0) (pa_cons (pe_lst (pa_cons pe_int (pa_cons (pe_un un_neg pe_int) (pa_cons (pe_op op_pow pe_int pe_int) pa_nil)))) pa_nil))))
 (pss_one (ps_ret (pe_callC c__law_of hr (by rfl) (pa_cons (pv 0) (pa_cons (pe_lst (pa_cons (pe_callTy (call_tupleK K rfl) (by rfl) n_tuple (by decide +kernel) (pa_cons (pe_op op_cat (pv 1) (pe_lst (pa_cons pe_int pa_nil))) pa_nil)) (pa_cons (pe_callTy (call_tupleK K rfl) (by rfl) n_tuple (by decide +kernel) (pa_cons (pe_op op_cat (pe_op op_cat (pe_slice (sl_listK K rfl) (pv 1) po_none (po_some (pv 2))) (pe_lst (pa_cons (pv 3) pa_nil))) (pe_slice (sl_listK K rfl) (pv 1) (po_some (pe_op op_add (pv 2) pe_int)) po_none)) pa_nil)) (pa_cons (pe_tup (pa_cons (pv 3) pa_nil)) pa_nil)))) pa_nil)))))))), ?_⟩
    refine ⟨4, rfl, by decide, by decide, fun D nD => ?_⟩
    refine lc_range (lo := 0) (n := 4) (fun i H' => ∃ ns : List Int, Mv b.1 H H' ∧ Bag b H' ∧ H' D = some (.lst (ns.map V.int)) ∧ ns.length = i) ⟨[], Mv.of (same_upd nD), hB.same (same_upd nD), upd_same, rfl⟩ ?_ ?_
    · rintro i H3 hi ⟨ns, mv3, hB3, eD, hl⟩
      have hi : i < 4 := hi
      refine ⟨rfl, tYes_by (iteT ?_)⟩
      refine ⟨_, rfl, b, 7, rfl, hB3, by decide, by decide, fun H4 y mv4 hB4 y0 y1 => ⟨_, _, rfl, rfl, ?_⟩⟩
      have neD : D ≠ b.1 := hB.ne nD
      refine ⟨_, mv4 _ _ neD eD, ?_, ns ++ [y - 3], ?_, hB4.upd neD (hB.ne2 nD), ?_, by simp [hl]⟩
      · rw [List.length_map, hl]
        exact sz4l (by omega)
      · intro a o ne ha
        rw [upd_ne (ne_of_none ha nD)]
        exact mv4 a o ne (mv3 a o ne ha)
      · rw [upd_same, List.map_append]
        rfl
    · rintro H3 ⟨ns, mv3, hB3, eD, hl⟩
      refine name_by ?_
      try dsimp only
      have s3 : SH b H3 [(D, .lst (ns.map V.int))] := (SH.nil hB3).add (hB.ne nD) (hB.ne2 nD) eD
      refine ⟨_, rfl, b, 4, rfl, s3.bag, by decide, by decide, fun H4 at_ mv4 hB4 a0 a1 => ?_⟩
      have s4 := s3.mv mv4 hB4
      refine name_by ?_
      try dsimp only
      refine ⟨_, rfl, 4, rfl, 10, 15, rfl, rfl, ⟨by decide, by decide, by decide⟩, (by show 3 ≤ sizeLine; decide), fun p5 np5 => ?_⟩
      have s5 := s4.new (o := .lst [.int 4, .int (-4), .int (10 ^ 15)]) np5
      refine ⟨b, p5, _, rfl, s5.bag, s5.ne (.head _), s5.get (.head _), (by show 0 < 3; decide), (by show 3 < 1000; decide), fun H6 v mv6 hB6 hv => ?_⟩
      obtain ⟨od, rfl, ob⟩ : ∃ z : Int, v = .int z ∧ (z < -3 ∨ 3 < z) := by
        simp only [List.mem_cons, List.not_mem_nil, or_false] at hv
        rcases hv with rfl | rfl | rfl
        · exact ⟨4, rfl, .inr (by decide)⟩
        · exact ⟨-4, rfl, .inl (by decide)⟩
        · exact ⟨_, rfl, .inr (by decide)⟩
      have s6 := (s5.mv mv6 hB6).sub (L' := [(D, .lst (ns.map V.int))]) (fun x hx => .tail _ hx)
      have m6 := ((mv3.trans mv4).trans (Mv.of (same_upd (o := .lst [.int 4, .int (-4), .int (10 ^ 15)]) np5))).trans mv6
      clear s3 s4 s5 mv3 mv4 mv6 hv np5 hB4 eD
      refine name_by ?_
      try dsimp only
      obtain ⟨an, ean⟩ : ∃ n : Nat, at_ = (n : Int) := ⟨at_.toNat, by omega⟩
      subst ean
      refine ⟨_, rfl, _, rfl, (by show 1 ≤ sizeLine; decide), fun q1 nq1 => ?_⟩
      have t1 := s6.new (o := .lst [.int 1]) nq1
      refine ⟨D, q1, _, _, rfl, rfl, t1.get (.tail _ (.head _)), t1.get (.head _), sz4l (by rw [List.length_map, hl]; decide), fun q2 nq2 => ?_⟩
      have t2 := t1.new (o := .lst (ns.map V.int ++ [.int 1])) nq2
      refine ⟨q2, _, rfl, .inl ⟨SqL.of (t2.get (.head _)), fun q3 nq3 => ?_⟩⟩
      have t3 := t2.new (o := .tup (ns.map V.int ++ [.int 1])) nq3
      refine ⟨_, rfl, _, rfl, _, rfl, D, _, rfl, SqL.of (t3.get (.tail _ (.tail _ (.tail _ (.head _))))), fun q4 nq4 => ?_⟩
      rw [cut_to_n] at *
      have t4 := t3.new (o := .lst ((ns.map V.int).take an)) nq4
      refine ⟨_, rfl, (by show 1 ≤ sizeLine; decide), fun q5 nq5 => ?_⟩
      have t5 := t4.new (o := .lst [.int od]) nq5
      refine ⟨q4, q5, _, _, rfl, rfl, t5.get (.tail _ (.head _)), t5.get (.head _), sz4l (by rw [List.length_take, List.length_map, hl]; omega), fun q6 nq6 => ?_⟩
      have t6 := t5.new (o := .lst ((ns.map V.int).take an ++ [.int od])) nq6
      refine ⟨_, rfl, _, rfl, _, _, rfl, rfl, _, rfl, D, _, rfl, SqL.of (t6.get (.tail _ (.tail _ (.tail _ (.tail _ (.tail _ (.tail _ (.head _)))))))), fun q7 nq7 => ?_⟩
      rw [show (an : Int) + 1 = ((an + 1 : Nat) : Int) from rfl, cut_from_n] at *
      have t7 := t6.new (o := .lst ((ns.map V.int).drop (an + 1))) nq7
      refine ⟨q6, q7, _, _, rfl, rfl, t7.get (.tail _ (.head _)), t7.get (.head _), ?_, fun q8 nq8 => ?_⟩
      · refine Nat.le_of_lt (sz4l ?_)
        rw [List.length_append, List.length_take, List.length_drop, List.length_map, hl]
        show min an 4 + 1 + (4 - (an + 1)) < 100000
        omega
      have t8 := t7.new (o := .lst ((ns.map V.int).take an ++ [.int od] ++ (ns.map V.int).drop (an + 1))) nq8
      refine ⟨q8, _, rfl, .inl ⟨SqL.of (t8.get (.head _)), fun q9 nq9 => ?_⟩⟩
      have t9 := t8.new (o := .tup ((ns.map V.int).take an ++ [.int od] ++ (ns.map V.int).drop (an + 1))) nq9
      refine ⟨_, rfl, (by show 1 ≤ sizeLine; decide), fun q10 nq10 => ?_⟩
      have t10 := t9.new (o := .tup [.int od]) nq10
      refine ⟨(by show 3 ≤ sizeLine; decide), fun q11 nq11 => ?_⟩
      have t11 := t10.new (o := .lst [.ref q3, .ref q9, .ref q10]) nq11
      refine ⟨b, q11, _, rfl, t11.bag, t11.ne (.head _), t11.get (.head _), (by show 0 < 3; decide), (by show 3 < 1000; decide), fun H12 v mv12 hB12 hv => ?_⟩
      have m1 := m6.trans (Mv.of (same_upd (o := .lst [.int 1]) nq1))
      have m2 := m1.trans (Mv.of (same_upd (o := .lst (ns.map V.int ++ [.int 1])) nq2))
      have m3 := m2.trans (Mv.of (same_upd (o := .tup (ns.map V.int ++ [.int 1])) nq3))
      have m4 := m3.trans (Mv.of (same_upd (o := .lst ((ns.map V.int).take an)) nq4))
      have m5 := m4.trans (Mv.of (same_upd (o := .lst [.int od]) nq5))
      have m7 := m5.trans (Mv.of (same_upd (o := .lst ((ns.map V.int).take an ++ [.int od])) nq6))
      have m8 := m7.trans (Mv.of (same_upd (o := .lst ((ns.map V.int).drop (an + 1))) nq7))
      have m9 := m8.trans (Mv.of (same_upd (o := .lst ((ns.map V.int).take an ++ [.int od] ++ (ns.map V.int).drop (an + 1))) nq8))
      have m10 := m9.trans (Mv.of (same_upd (o := .tup ((ns.map V.int).take an ++ [.int od] ++ (ns.map V.int).drop (an + 1))) nq9))
      have m11 := m10.trans (Mv.of (same_upd (o := .tup [.int od]) nq10))
      have m12 := (m11.trans (Mv.of (same_upd (o := .lst [.ref q3, .ref q9, .ref q10]) nq11))).trans mv12
      have t12 := t11.mv mv12 hB12
      have n3 := m2.none (t3.ne (.head _)) nq3
      have n9 := m9.none (t9.ne (.head _)) nq9
      have n10 := m10.none (t10.ne (.head _)) nq10
      have e3 := t12.get (p := q3) (.tail _ (.tail _ (.tail _ (.tail _ (.tail _ (.tail _ (.tail _ (.tail _ (.head _)))))))))
      have e9 := t12.get (p := q9) (.tail _ (.tail _ (.head _)))
      have e10 := t12.get (p := q10) (.tail _ (.head _))
      clear t1 t2 t3 t4 t5 t6 t7 t8 t9 t10 t11 t12 m1 m2 m3 m4 m5 m6 m7 m8 m9 m10 m11
      rcases List.mem_cons.mp hv with rfl | hv
      · exact q H12 q3 (ns ++ [1]) m12 hB12 n3 (by rw [List.map_append]; exact e3) (by rw [List.length_append, hl]; decide) (bad_long hl)
      rcases List.mem_cons.mp hv with rfl | hv
      · refine q H12 q9 (ns.take an ++ [od] ++ ns.drop (an + 1)) m12 hB12 n9 (by rw [List.map_append, List.map_append, List.map_take, List.map_drop]; exact e9) ?_ (bad_mem (List.mem_append_left _ (List.mem_append_right _ (.head _))) ob)
        rw [List.length_append, List.length_append, List.length_take, List.length_drop, hl]
        show min an 4 + 1 + (4 - (an + 1)) ≤ 10
        omega
      · rw [List.mem_singleton.mp hv]
        exact q H12 q10 [od] m12 hB12 n10 e10 (by show 1 ≤ 10; decide) (bad_mem (.head _) ob)
theorem sc__law_noughts_behind : FnScope ["_law_bag_here", "_law_good", "_law_longer", "_law_sounds", "_law_own", "_law_ears", "_law_told", "_law_ear", "_law_k"] ["_law_bag_here", "_law_good", "_law_longer"] (defScope s__law_noughts_behind) := ⟨rfl, rfl, rfl, by decide +kernel, rfl, by decide +kernel, by decide +kernel⟩
/-- an ear and a mouth made of shares with noughts behind them do as those made without -/
def spNought (K : PySem.W.Frag) : Sp := fun vs H Q _ => ∃ (b : Addr × Addr) (g l : Addr) (ws us : List Int), vs = [.ref b.1, .ref g, .ref l] ∧ Bag b H ∧ SqT K H g (ws.map V.int) ∧ SqT K H l (us.map V.int) ∧ okSh ws ∧ trimS us = trimS ws ∧ ws.length ≤ 100 ∧ us.length ≤ 100 ∧ ∀ H' : Hp, Up (tG [tB b]) [tB b] H H' → Q (.bl true) H'
abbrev lT30 (o : Addr) (ns : List Int) : Th := tL o (ns.map L2.V.int)
def esNew (ws : List Int) : ES := ⟨1, trimS ws, wr 7 0, ⟨[], -1, 0⟩, z4, 0⟩
theorem up_bag {b : Addr × Addr} {H H' : Hp} (h : Bag b H) (m : Mv b.1 H H') (g : Bag b H') : Up (tB b) [tB b] H H' := up_mv (T := tB b) (T' := tB b) h (mvf_bag m g) (fun a ha => ha) g (fun a ha => .inl ha)
def J30 (K : PySem.W.Frag) (CE CD CR : Addr) (b : Addr × Addr) (L : List (Addr × List L2.V)) (ws : List Int) (oa oe el : Addr) (as es : List Int) (A0 A1 : EA) (D : Addr) (H0 : Hp) (n : Nat) (H : Hp) : Prop := match n with
  | 0 => Rn K H0 (tG [tB b]).ft L [tL D [], tB b, lT30 oa as, lT30 oe es, tL el [.ref A0.r, .ref A1.r], tEr CE CD CR A0 (esNew ws), tEr CE CD CR A1 (esNew ws)] H
  | 1 => ∃ (B0 : EA) (pl : Addr) (ps : List Addr), B0.r = A0.r ∧ Rn K H0 (tG [tB b]).ft L [tL D [.ref pl], tRows pl ps (heR (esNew ws) as es), tB b, lT30 oa as, lT30 oe es, tL el [.ref A0.r, .ref A1.r], tEr CE CD CR B0 (heS (esNew ws) as es), tEr CE CD CR A1 (esNew ws)] H
  | _ => ∃ (B0 B1 : EA) (pl pm : Addr) (ps qs : List Addr), B0.r = A0.r ∧ B1.r = A1.r ∧ Rn K H0 (tG [tB b]).ft L [tL D [.ref pl, .ref pm], tRows pl ps (heR (esNew ws) as es), tRows pm qs (heR (esNew ws) as es), tB b, lT30 oa as, lT30 oe es, tL el [.ref A0.r, .ref A1.r], tEr CE CD CR B0 (heS (esNew ws) as es), tEr CE CD CR B1 (heS (esNew ws) as es)] H
theorem judge_small {ns p : List Int} (h : judge ns = some p) : p.length ≤ 256 := by
  unfold judge at h
  split at h
  · cases h
  · split at h
    · rename_i row _ c
      cases h
      rw [List.length_take]
      omega
    · cases h
theorem hstep_small {S : LS} {b : Int} {p : List Int} (h : (hstep S b).2 = some p) : p.length ≤ 256 := by
  unfold hstep at h
  split at h
  · split at h
    · cases h
    · split at h
      · cases h
      · rename_i q e
        cases h
        exact judge_small e
  · split at h <;> cases h
theorem hall_small (bs : List Int) : ∀ (T : LS × List (List Int)), (∀ r ∈ T.2, r.length ≤ 256) → ∀ r ∈ (bs.foldl (fun T b => ((hstep T.1 b).1, T.2 ++ (hstep T.1 b).2.toList)) T).2, r.length ≤ 256 := by
  induction bs with
  | nil => exact fun T h => h
  | cons b bs ih =>
    intro T h
    refine ih _ (fun r hr => ?_)
    rcases List.mem_append.mp hr with z | z
    · exact h r z
    · exact hstep_small (Option.mem_toList.mp z)
theorem heR_small (E : ES) (hs os : List Int) : ∀ r ∈ heR E hs os, r.length ≤ 256 := fun r hr => hall_small (heC E hs os) (E.R, []) (fun r h => nomatch h) r hr
theorem heR_few {E : ES} {hs os : List Int} (ok : okR E.rate) (l1 : hs.length = 18) (l2 : os.length = 18) : (heR E hs os).length ≤ 64 := by
  obtain ⟨r1, r4⟩ := id ok
  have okn : okR ((E.rate.toNat : Nat) : Int) := by
    rw [show ((E.rate.toNat : Nat) : Int) = E.rate by omega]
    exact ok
  have lz : (erV E.ws E.tones (hs.zip os)).length = 18 := by rw [erV_len, List.length_zip, l1, l2]; rfl
  have l3 := (hp_opt (r := E.rate.toNat) (hs := erV E.ws E.tones (hs.zip os)) okn (by omega)).2.1
  have l4 : (heC E hs os).length ≤ 64 := by
    unfold heC heB
    rw [List.length_drop, scO_len, l3, lz]
    omega
  have := hall_len E.R (heC E hs os) (heC E hs os).length (Nat.le_refl _)
  rw [List.take_of_length_le (Nat.le_refl _)] at this
  show (hall E.R (heC E hs os)).2.length ≤ 64
  omega
theorem up_pair30 {H : Hp} {y dy : Addr} {o o' : HO} (ny : H y = none) (ndy : H dy = none) : Same H (upd (upd H dy o) y o') := fun a u e => by
  rw [upd_ne (ne_of_none e ny), upd_ne (ne_of_none e ndy)]
  exact e
theorem ok__law_noughts_behind {f CM CS CC CD CR CE cR cT cN cNo aE eE : Addr} {fd : FuncData} {k : Nat} (F : Fun K "_law_noughts_behind" "_law_noughts_behind" s__law_noughts_behind f fd) (n_range : mg "range" = none) (n_list : mg "list" = none)
    (cnp_Mouth_1_ : CalNP P w K mg base k "Mouth" CM ["self", "shares", "rate", "seed"] 1 [] (fun vs zs => vs ++ ([.ref aE] : List V).drop 1 ++ pickL (zs ++ [.int 1, .int 0]) [0, 1]) (spMoI K CM CS CC cR cT cN)) (cnp_Ear_1_ : CalNP P w K mg base k "Ear" CE ["self", "echo", "rate", "seed"] 1 [] (fun vs zs => vs ++ ([.ref eE] : List V).drop 1 ++ pickL (zs ++ [.int 1, .int 0]) [0, 1]) (spErI K CE CD CR cR cT cN))
    (c_Mouth_burst : CalM CX0 P w K mg base (k + 1) CM "burst" ["self"] (spMoBurst K CM CS CC)) (c_Ear_hear : CalM (L2.CX P w) P w K mg base (k + 1) CE "hear" ["self", "heard", "own"] (spHear K CE CD CR cNo)) (c_Ear_hurt : CalM CX0 P w K mg base (k + 1) CE "hurt" ["self"] (spErHurt CE CD CR))
    (c__law_same : Cal P w K mg base (k + 1) "_law_same" ["_law_found", "_law_due"] (spSame K 6)) (c__law_tone : Cal P w K mg base (k + 1) "_law_tone" ["_law_bag_here"] spTone) : FnOk P w K mg base CX0 (k + 2) f fd ["_law_bag_here", "_law_good", "_law_longer"] (spNought K) := by
  have sc := sc__law_noughts_behind
  refine F.ok sc (fun vs H Q E h => ?_) (fun cdv A_ outer s H vs Q E hr h => ?_)
  · obtain ⟨b, g, l, ws, us, rfl, _⟩ := h
    rfl
  · obtain ⟨b, g, l, ws, us, rfl, hB, hg, hl, okw, etr, lw, lu, q⟩ := h
    refine ⟨_, (pss_cons (ps_asg (pe_tup (pa_cons (pe_lc (own := [("_law_k", 8)]) (g := gName 8) (by rfl) sc.nd (pi_range1 (by rfl) n_range (pa_cons pe_int pa_nil)) (blkOk_by (own := [("_law_k", 8)]) (N := ["_law_bag_here", "_law_good", "_law_longer", "_law_sounds", "_law_own", "_law_ears", "_law_told", "_law_ear", "_law_k"]) (sc := defScope s__law_noughts_behind) (by decide +kernel)) (fun _ _ _ _ _ => (pg_name (i := 8) sc.nd rfl (Or.inl rfl))) (fun _ _ _ _ _ => pts_nil) (fun _ _ _ _ _ => (pe_callC c__law_tone hr (by rfl) (pa_cons (pv 0) pa_nil)))) (pa_cons (pe_lc (own := [("_law_k", 8)]) (g := gName 8) (by rfl) sc.nd (pi_range1 (by rfl) n_range (pa_cons pe_int pa_nil)) (blkOk_by (own := [("_law_k", 8)]) (N := ["_law_bag_here", "_law_good", "_law_longer", "_law_sounds", "_law_own", "_law_ears", "_law_told", "_law_ear", "_law_k"]) (sc := defScope s__law_noughts_behind) (by decide +kernel)) (fun _ _ _ _ _ => (pg_name (i := 8) sc.nd rfl (Or.inl rfl))) (fun _ _ _ _ _ => pts_nil) (fun _ _ _ _ _ => (pe_callC c__law_tone hr (by rfl) (pa_cons (pv 0) pa_nil)))) pa_nil))) (pg_tup rfl (pgs_cons (pg_name (i := 3) sc.nd rfl (.inr rfl)) (pgs_cons (pg_name (i := 4) sc.nd rfl (.inr rfl)) pgs_nil))))
 (pss_cons (ps_set (i := 5) sc.nd rfl (.inl rfl) (pe_lst (pa_cons (pe_makePF cnp_Ear_1_ hr (by rfl) (pa_cons (pv 2) pa_nil) pk_nil) (pa_cons (pe_makePF cnp_Ear_1_ hr (by rfl) (pa_cons (pv 1) pa_nil) pk_nil) pa_nil))))
 (pss_cons (ps_setLc (i := 6) (own := [("_law_ear", 7)]) (g := gName 7) (by rfl) sc.nd rfl rfl (sw_true rfl rfl rfl (by decide +kernel)) (pi_listK K rfl (pv 5)) (blkOk_by (own := [("_law_ear", 7)]) (N := ["_law_bag_here", "_law_good", "_law_longer", "_law_sounds", "_law_own", "_law_ears", "_law_told", "_law_ear", "_law_k"]) (sc := defScope s__law_noughts_behind) (by decide +kernel)) (fun _ _ _ _ _ => (pg_name (i := 7) sc.nd rfl (Or.inl rfl))) (fun _ _ _ _ _ => pts_nil) (fun _ _ _ _ _ => (pe_methF (pv 7) c_Ear_hear hr (pa_cons (pe_callTy (call_listK K rfl) (by rfl) n_list (by decide +kernel) (pa_cons (pv 3) pa_nil)) (pa_cons (pe_callTy (call_listK K rfl) (by rfl) n_list (by decide +kernel) (pa_cons (pv 4) pa_nil)) pa_nil)))))
 (pss_cons (ps_if (PW.pt (pw_or (pt_not (pt_val (pe_callC c__law_same hr (by rfl) (pa_cons (pe_ix (ix_listK K rfl) (pv 6) pe_int (fun _ _ => rfl)) (pa_cons (pe_ix (ix_listK K rfl) (pv 6) pe_int (fun _ _ => rfl)) pa_nil))))) (pw_or1 (pt_cmpR op_ne (pe_methC0 (pe_ix (ix_listK K rfl) (pv 5) pe_int (fun _ _ => rfl)) c_Ear_hurt hr) (pe_methC0 (pe_ix (ix_listK K rfl) (pv 5) pe_int (fun _ _ => rfl)) c_Ear_hurt hr) (nomark _)))))
  (pss_one (ps_ret pe_bl))
  pss_nil)
 (pss_one (ps_ret (pe_cmpR (op_eqDK K rfl hr.units) (pe_methC0 (pe_makePF cnp_Mouth_1_ hr (by rfl) (pa_cons (pv 2) pa_nil) pk_nil) c_Mouth_burst hr) (pe_methC0 (pe_makePF cnp_Mouth_1_ hr (by rfl) (pa_cons (pv 1) pa_nil) pk_nil) c_Mouth_burst hr) (nomark _)))))))), ?_⟩
    have okr : okR (1 : Int) := ⟨by decide, by decide⟩
    have oku : okSh us := by unfold okSh; rw [etr]; exact okw
    have R0 : Rn K H (tG [tB b]).ft [] [tB b] H := Rn.start (Hs.nil0.cons hB (fun j y hj => by cases hj))
    -- the sounds
    refine ⟨18, rfl, by decide, by decide, fun oa noa => ?_⟩
    refine lc_range (lo := 0) (n := 18) (fun i H' => ∃ as : List Int, as.length = i ∧ Rn K H (tG [tB b]).ft [] [tL oa (as.map V.int), tB b] H') ⟨[], rfl, R0.newL noa⟩ ?_ ?_
    · rintro i H2 hi ⟨as, la, R2⟩
      refine ⟨rfl, tYes_by (iteT ?_)⟩
      refine ⟨_, rfl, b, rfl, R2.get 1 rfl, fun H3 z mv3 hB3 hz => ?_⟩
      have R3 := (R2.up 1 rfl (up_bag (R2.get 1 rfl) mv3 hB3)).sel [1, 0] (by decide)
      refine ⟨_, R3.at 0 rfl, ?_, as ++ [z], by rw [List.length_append, la]; rfl, ?_⟩
      · rw [List.length_map, la]
        exact sz4l (by omega)
      · rw [List.map_append]
        exact (R3.put (o' := .lst (as.map V.int ++ [.int z])) 0 rfl).sel [0, 1] (by decide)
    · clear noa R0
      rintro H2 ⟨as, la, R2⟩
      refine ⟨18, rfl, by decide, by decide, fun oe noe => ?_⟩
      refine lc_range (lo := 0) (n := 18) (fun i H' => ∃ es : List Int, es.length = i ∧ Rn K H (tG [tB b]).ft [] [tL oe (es.map V.int), tL oa (as.map V.int), tB b] H') ⟨[], rfl, R2.newL noe⟩ ?_ ?_
      · clear R2 noe
        rintro i H3 hi ⟨es, le, R3⟩
        refine ⟨rfl, tYes_by (iteT ?_)⟩
        refine ⟨_, rfl, b, rfl, R3.get 2 rfl, fun H4 z mv4 hB4 hz => ?_⟩
        have R4 := (R3.up 2 rfl (up_bag (R3.get 2 rfl) mv4 hB4)).sel [1, 2, 0] (by decide)
        refine ⟨_, R4.at 0 rfl, ?_, es ++ [z], by rw [List.length_append, le]; rfl, ?_⟩
        · rw [List.length_map, le]
          exact sz4l (by omega)
        · rw [List.map_append]
          exact (R4.put (o' := .lst (es.map V.int ++ [.int z])) 0 rfl).sel [0, 1, 2] (by decide)
      · clear R2 noe
        rintro H3 ⟨es, le, R3⟩
        refine ⟨(by show 2 ≤ sizeLine; decide), fun tp ntp => ?_⟩
        have R4 := R3.newT (xs := [.ref oa, .ref oe]) ntp
        refine ⟨tp, _, rfl, R4.tup 0 rfl, rfl, _, _, rfl, _, _, rfl, rfl, ?_⟩
        replace R4 := R4.selT (L' := []) (fun x hx => nomatch hx)
        generalize upd H3 tp _ = H4 at R4 ⊢
        clear R3 ntp
        try dsimp only
        -- the ears
        refine ⟨_, rfl, rfl, rfl, fun x dx nx ndx nex => ⟨x, dx, l, false, us, 1, 0, rfl, upd_same, same_t (up_pair30 nx ndx) (R4.keepT hl), by omega, (fun _ _ _ _ X1 A0 er edx ux htx => ⟨rfl, ?_⟩), (fun no => absurd okr no), (fun _ no => absurd oku no), (fun _ _ no => by omega)⟩⟩
        rw [etr] at ux htx
        have R5 := (Rn.grp (As := earTs CE CD CR A0 (esNew ws)) (R4.upN (up_made nx ndx ux))).know htx
        rw [← er]
        clear R4 nx ndx nex ux htx er edx
        refine ⟨_, rfl, rfl, rfl, fun x dx nx ndx nex => ⟨x, dx, g, false, ws, 1, 0, rfl, upd_same, same_t (up_pair30 nx ndx) (R5.keepT hg), by omega, (fun _ _ _ _ X2 A1 er edx ux htx => ⟨rfl, ?_⟩), (fun no => absurd okr no), (fun _ no => absurd okw no), (fun _ _ no => by omega)⟩⟩
        have R6 := (Rn.grp (As := earTs CE CD CR A1 (esNew ws)) (R5.upN (up_made nx ndx ux))).know htx
        rw [← er]
        clear R5 nx ndx nex ux htx er edx
        refine ⟨(by show 2 ≤ sizeLine; decide), fun el nel => ?_⟩
        have R7 := (R6.newL (xs := [.ref A0.r, .ref A1.r]) nel).sel [5, 4, 3, 0, 2, 1] (by decide)
        generalize upd _ el _ = H7 at R7 ⊢
        clear R6 nel
        refine name_by ?_
        try dsimp only
        have lA : as.length = 18 := la
        have lE : es.length = 18 := le
        have hok : (esNew ws).Ok := ⟨okr, okSh_trim okw, trimS_idem _, Nat.zero_le _⟩
        refine ⟨_, rfl, el, rfl, ⟨_, SqL.of (R7.at 3 rfl)⟩, fun D nD => ?_⟩
        obtain ⟨L, eL⟩ : ∃ L : List (Addr × List L2.V), L = [(A1.t, (trimS ws).map V.int), (A0.t, (trimS ws).map V.int)] := ⟨_, rfl⟩
        rw [show ([(A1.t, (trimS ws).map V.int), (A0.t, (trimS ws).map V.int)] : List (Addr × List L2.V)) = L from eL.symm] at R7
        have t1 : (A1.t, (esNew ws).ws.map V.int) ∈ L := by rw [eL]; exact .head _
        have t0 : (A0.t, (esNew ws).ws.map V.int) ∈ L := by rw [eL]; exact .tail _ (.head _)
        have R8 := R7.newL (xs := []) nD
        refine lc_list (xs := [.ref A0.r, .ref A1.r]) (J30 K CE CD CR b L ws oa oe el as es A0 A1 D H) R8 ?_ ?_ ?_
        · rintro n H' hn h
          obtain rfl | rfl | rfl : n = 0 ∨ n = 1 ∨ n = 2 := by
            have : n ≤ 2 := hn
            omega
          · exact SqL.of (Rn.at h 4 rfl)
          · obtain ⟨_, _, _, _, h⟩ := h
            exact SqL.of (h.at 5 rfl)
          · obtain ⟨_, _, _, _, _, _, _, _, h⟩ := h
            exact SqL.of (h.at 6 rfl)
        · clear R7 R8 nD
          rintro n x H8 hx h8
          have hn : n < 2 := (List.getElem?_eq_some_iff.mp hx).1
          obtain rfl | rfl : n = 0 ∨ n = 1 := by omega
          · obtain rfl : _ = x := Option.some.inj hx
            have R8 : Rn K H (tG [tB b]).ft L [tL D [], tB b, lT30 oa as, lT30 oe es, tL el [.ref A0.r, .ref A1.r], tEr CE CD CR A0 (esNew ws), tEr CE CD CR A1 (esNew ws)] H8 := h8
            clear h8
            refine ⟨rfl, tYes_by (iteT ?_)⟩
            have hM : Hw K [] [] (earTs CE CD CR A0 (esNew ws)) H8 := .of (R8.get 5 rfl)
            refine ⟨_, rfl, A0.r, A0.dx, _, rfl, hM.at 0 rfl, rfl, ?_⟩
            refine ⟨_, rfl, oa, _, rfl, .inl (SqL.of (R8.at 2 rfl)), fun X1 n1 => ?_⟩
            have R9 := R8.newL (xs := as.map V.int) n1
            refine ⟨_, rfl, oe, _, rfl, .inl (SqL.of (R9.at 4 rfl)), fun X2 n2 => ?_⟩
            have R10 := R9.newL (xs := es.map V.int) n2
            generalize upd (upd H8 X1 (.lst (as.map V.int))) X2 (.lst (es.map V.int)) = H10 at R10 ⊢
            clear R8 R9 n1 n2 hM
            refine ⟨A0, esNew ws, X1, X2, as, es, rfl, R10.get 7 rfl, hok, R10.hw.tf _ t0, SqL.of (R10.at 1 rfl), SqL.of (R10.at 0 rfl), fun z => R10.hw.hs.sep 1 7 _ _ (by decide) rfl rfl X1 (.head _) z, fun z => R10.hw.hs.sep 0 7 _ _ (by decide) rfl rfl X2 (.head _) z, (fun _ _ H11 B0 pl ps eB etB u11 => ?_), (fun no => absurd no (by omega))⟩
            obtain ⟨rows, erows⟩ : ∃ z, z = heR (esNew ws) as es := ⟨_, rfl⟩
            obtain ⟨E', eE'⟩ : ∃ z, z = heS (esNew ws) as es := ⟨_, rfl⟩
            rw [← erows, ← eE'] at u11
            have R11 := (R10.up 7 rfl u11).sel [1, 2, 3, 4, 7, 0, 8, 9, 10, 11, 12] (by decide)
            have R12 := (Rn.grp (As := earTs CE CD CR B0 E') R11).sel [1, 2, 3, 4, 5, 6, 0, 7] (by decide)
            refine ⟨[], R12.at 0 rfl, (by show 0 < sizeLine; decide), B0, pl, ps, eB, ?_⟩
            rw [← erows, ← eE']
            exact R12.put (o' := .lst [.ref pl]) 0 rfl
          · obtain rfl : _ = x := Option.some.inj hx
            obtain ⟨B0, pl, ps, eB0, R8⟩ := h8
            refine ⟨rfl, tYes_by (iteT ?_)⟩
            have hM : Hw K [] [] (earTs CE CD CR A1 (esNew ws)) H8 := .of (R8.get 7 rfl)
            refine ⟨_, rfl, A1.r, A1.dx, _, rfl, hM.at 0 rfl, rfl, ?_⟩
            refine ⟨_, rfl, oa, _, rfl, .inl (SqL.of (R8.at 3 rfl)), fun X1 n1 => ?_⟩
            have R9 := R8.newL (xs := as.map V.int) n1
            refine ⟨_, rfl, oe, _, rfl, .inl (SqL.of (R9.at 5 rfl)), fun X2 n2 => ?_⟩
            have R10 := R9.newL (xs := es.map V.int) n2
            generalize upd (upd H8 X1 (.lst (as.map V.int))) X2 (.lst (es.map V.int)) = H10 at R10 ⊢
            clear R8 R9 n1 n2 hM
            refine ⟨A1, esNew ws, X1, X2, as, es, rfl, R10.get 9 rfl, hok, R10.hw.tf _ t1, SqL.of (R10.at 1 rfl), SqL.of (R10.at 0 rfl), fun z => R10.hw.hs.sep 1 9 _ _ (by decide) rfl rfl X1 (.head _) z, fun z => R10.hw.hs.sep 0 9 _ _ (by decide) rfl rfl X2 (.head _) z, (fun _ _ H11 B1 pm qs eB etB u11 => ?_), (fun no => absurd no (by omega))⟩
            obtain ⟨rows, erows⟩ : ∃ z, z = heR (esNew ws) as es := ⟨_, rfl⟩
            obtain ⟨E', eE'⟩ : ∃ z, z = heS (esNew ws) as es := ⟨_, rfl⟩
            rw [← erows, ← eE'] at u11
            have R11 := (R10.up 9 rfl u11).sel [1, 2, 3, 4, 7, 8, 0, 9, 10, 11, 12, 13] (by decide)
            have R12 := (Rn.grp (As := earTs CE CD CR B1 E') R11).sel [1, 2, 3, 4, 5, 6, 7, 8, 0] (by decide)
            refine ⟨[.ref pl], R12.at 0 rfl, (by show 1 < sizeLine; decide), B0, B1, pl, pm, ps, qs, eB0, eB, ?_⟩
            rw [← erows, ← eE'] at R12 ⊢
            exact R12.put (o' := .lst [.ref pl, .ref pm]) 0 rfl
        · clear R7 R8 nD
          rintro H8 h8
          obtain ⟨B0, B1, pl, pm, ps, qs, e0, e1, R8⟩ : ∃ (B0 B1 : EA) (pl pm : Addr) (ps qs : List Addr), B0.r = A0.r ∧ B1.r = A1.r ∧ Rn K H (tG [tB b]).ft L [tL D [.ref pl, .ref pm], tRows pl ps (heR (esNew ws) as es), tRows pm qs (heR (esNew ws) as es), tB b, lT30 oa as, lT30 oe es, tL el [.ref A0.r, .ref A1.r], tEr CE CD CR B0 (heS (esNew ws) as es), tEr CE CD CR B1 (heS (esNew ws) as es)] H8 := h8
          obtain ⟨rows, erows⟩ : ∃ z, z = heR (esNew ws) as es := ⟨_, rfl⟩
          obtain ⟨E', eE'⟩ : ∃ z, z = heS (esNew ws) as es := ⟨_, rfl⟩
          rw [← erows, ← eE'] at R8
          refine name_by ?_
          try dsimp only
          have t1 : (tRows pl ps rows).P H8 := R8.get 1 rfl
          have t2 : (tRows pm qs rows).P H8 := R8.get 2 rfl
          refine ⟨_, rfl, D, _, _, _, rfl, rfl, SqL.of (R8.at 0 rfl), rfl, _, rfl, D, _, _, _, rfl, rfl, SqL.of (R8.at 0 rfl), rfl, .ref pl, .ref pm, dRows rows, rfl, dp_rows t1.1 t1.2.1, dp_rows t2.1 t2.2.1, ?_, shaped_rows _, fun H9 s9 => ⟨_, rfl, iteF ?_⟩⟩
          · refine dn_rows ?_ (fun r hr => ?_) 3
            · rw [erows]
              exact Nat.le_trans (heR_few okr lA lE) (by decide)
            · rw [erows] at hr
              exact Nat.le_trans (heR_small _ _ _ r hr) (by decide)
          have R9 := R8.same s9
          clear R8 t1 t2 s9
          have hM0 : Hw K [] [] (earTs CE CD CR B0 E') H9 := .of (R9.get 7 rfl)
          have hM1 : Hw K [] [] (earTs CE CD CR B1 E') H9 := .of (R9.get 8 rfl)
          have hi0 := hM0.at 0 rfl
          have hi1 := hM1.at 0 rfl
          rw [e0] at hi0
          rw [e1] at hi1
          refine ⟨_, rfl, el, _, _, _, rfl, rfl, SqL.of (R9.at 6 rfl), rfl, A0.r, B0.dx, _, rfl, hi0, rfl, B0, E', by rw [e0]; rfl, R9.get 7 rfl, ?_⟩
          refine ⟨_, rfl, el, _, _, _, rfl, rfl, SqL.of (R9.at 6 rfl), rfl, A1.r, B1.dx, _, rfl, hi1, rfl, B1, E', by rw [e1]; rfl, R9.get 8 rfl, ?_⟩
          refine ⟨rfl, _, rfl, ite2 (fun e => absurd e (by rw [decide_eq_true rfl]; decide)) (fun _ => ?_)⟩
          clear hM0 hM1 hi0 hi1
          unfold tNext
          try dsimp only
          -- the mouths
          refine ⟨_, rfl, rfl, rfl, fun x dx nx ndx nex => ⟨x, dx, l, false, us, 1, 0, rfl, upd_same, same_t (up_pair30 nx ndx) (R9.keepT hl), by omega, (fun _ _ _ _ X1 M0 er edx ux htx => ⟨rfl, ?_⟩), (fun no => absurd okr no), (fun _ no => absurd oku no), (fun _ _ no => by omega)⟩⟩
          rw [etr] at ux htx
          have R10 := ((Rn.grp (As := mthTs CM CS CC M0 ⟨1, trimS ws, z4, wr 7 0, []⟩) (R9.upN (up_made nx ndx ux))).sel [0, 4] (by decide)).know htx
          clear R9 nx ndx nex ux htx
          have hS : (⟨1, trimS ws, z4, wr 7 0, []⟩ : MS).Ok := ⟨okr, okSh_trim okw, trimS_idem _, bits_nil, Nat.zero_le _⟩
          have hM : Hw K [] [] (mthTs CM CS CC M0 ⟨1, trimS ws, z4, wr 7 0, []⟩) X1 := .of (R10.get 0 rfl)
          rw [← er]
          refine ⟨M0.r, M0.dx, _, rfl, hM.at 0 rfl, rfl, M0, _, rfl, R10.get 0 rfl, hS, R10.tup 0 rfl, fun X2 M0' o0 _ _ u2 => ?_⟩
          have R11 := (R10.up 0 rfl u2).sel [0, 5] (by decide)
          clear R10 u2 hM er edx
          refine ⟨_, rfl, rfl, rfl, fun x dx nx ndx nex => ⟨x, dx, g, false, ws, 1, 0, rfl, upd_same, same_t (up_pair30 nx ndx) (R11.keepT hg), by omega, (fun _ _ _ _ X3 M1 er edx ux htx => ⟨rfl, ?_⟩), (fun no => absurd okr no), (fun _ no => absurd okw no), (fun _ _ no => by omega)⟩⟩
          have R12 := ((Rn.grp (As := mthTs CM CS CC M1 ⟨1, trimS ws, z4, wr 7 0, []⟩) (R11.upN (up_made nx ndx ux)))).know htx
          clear R11 nx ndx nex ux htx
          have hM : Hw K [] [] (mthTs CM CS CC M1 ⟨1, trimS ws, z4, wr 7 0, []⟩) X3 := .of (R12.get 0 rfl)
          rw [← er]
          refine ⟨M1.r, M1.dx, _, rfl, hM.at 0 rfl, rfl, M1, _, rfl, R12.get 0 rfl, hS, R12.tup 0 rfl, fun X4 M1' o1 _ _ u4 => ?_⟩
          have R13 := (R12.up 0 rfl u4).sel [0, 5, 6] (by decide)
          clear R12 u4 hM er edx
          refine ⟨_, _, dp_ints (SqL.of (R13.at 1 rfl)), dp_ints (SqL.of (R13.at 0 rfl)), shaped_ints _, shaped_ints _, ?_⟩
          rw [SeqAt.eqv_refl _ (SeqAt.canLay_of_shaped (shaped_ints _))]
          exact q X4 (R13.sel [2] (by decide)).out
/-! ### laws with lambdas: what is carried on; refusals compared; numbers on the ring -/
theorem Hw.extX {L : List (Addr × List V)} {T0 : List (Addr × Str)} {Ts : List Th} {H H' : Hp} (h : Hw K L T0 Ts H) (e : LamX.ExtN H H') (t : LamX.Tabs T0 H') : Hw K L T0 Ts H' := ⟨h.hs.extN e t, fun p hp => by
  rcases h.tf p hp with (g | ⟨o, g⟩) | g
  · exact .inl (.inl (e _ _ g (fun ps z => by cases z)))
  · exact .inl (.inr ⟨o, e _ _ g (fun ps z => by cases z)⟩)
  · exact .inr g⟩
theorem same_codeO {H H' : Hp} {c : Addr} {q : Str} (s : Same H H') (h : H c = some (LamX.CodeO c q)) : H' c = some (LamX.CodeO c q) := s _ _ h
theorem dp_s2 {H : Hp} {a : Addr} {x y : Str} (h : H a = some (.tup [.str x, .str y])) : Dp K H (.ref a) (.tuple [.str x, .str y]) := .tup (.inl (.inl h)) (.cons (.str x) (.cons (.str y) .nil))
theorem shaped_s2 {x y : Str} (hx : PyData.canLay0 (.str x) = true) (hy : PyData.canLay0 (.str y) = true) : SeqAt.shaped (.tuple [.str x, .str y]) = true := by
  unfold SeqAt.shaped
  rw [Bool.and_eq_true]
  refine ⟨?_, decide_eq_true (by show max 0 (max 0 0) + 1 ≤ 64; decide)⟩
  show (PyData.canLay0 (.str x) && (PyData.canLay0 (.str y) && true)) = true
  rw [hx, hy]
  rfl
theorem neD_s2 {H : Hp} {a c : Addr} {x y : Str} {Q : VK} (hx : PyData.canLay0 (.str x) = true) (hy : PyData.canLay0 (.str y) = true) (h1 : H a = some (.tup [.str x, .str y])) (h2 : H c = some (.tup [.str x, .str y])) (q : Q (.bl false) H) : rNeD K (.ref a) (.ref c) H Q := by
  refine ⟨_, _, dp_s2 h1, dp_s2 h2, shaped_s2 hx hy, shaped_s2 hx hy, ?_⟩
  rw [SeqAt.eqv_refl _ (SeqAt.canLay_of_shaped (shaped_s2 hx hy))]
  exact q
theorem lay_Refused : PyData.canLay0 (.str "refused") = true := by decide +kernel
theorem lay_BadRate' : PyData.canLay0 (.str "BadRate") = true := by decide +kernel
theorem lay_BadCount' : PyData.canLay0 (.str "BadCount") = true := by decide +kernel
/-- a refusal told, and what was due: != tells False -/
theorem ref_ne {H : Hp} {x y : Str} {Q : VK} (hx : PyData.canLay0 (.str x) = true) (hy : PyData.canLay0 (.str y) = true) {p p' : Addr} (np : H p = none) (np' : upd H p (.tup [.str x, .str y]) p' = none)
    (q : Q (.bl false) (upd (upd H p (.tup [.str x, .str y])) p' (.tup [.str x, .str y]))) : rNeD K (.ref p) (.ref p') (upd (upd H p (.tup [.str x, .str y])) p' (.tup [.str x, .str y])) Q :=
  neD_s2 hx hy (same_upd np' _ _ upd_same) upd_same q
theorem codeO_upd {H : Hp} {a c : Addr} {o : HO} {xs : List V} {q : Str} (ha : H a = some (.lst xs)) (h : H c = some (LamX.CodeO c q)) : upd H a o c = some (LamX.CodeO c q) := by
  rw [upd_ne (fun z => ?_)]
  · exact h
  · rw [z, ha] at h
    unfold LamX.CodeO at h
    cases h
theorem neD_i2 {H : Hp} {a c : Addr} {ns : List Int} {Q : VK} (h1 : SqL K H a (ns.map V.int)) (h2 : SqL K H c (ns.map V.int)) (q : Q (.bl false) H) : rNeD K (.ref a) (.ref c) H Q := by
  refine ⟨_, _, dp_ints h1, dp_ints h2, shaped_ints ns, shaped_ints ns, ?_⟩
  rw [SeqAt.eqv_refl _ (SeqAt.canLay_of_shaped (shaped_ints ns))]
  exact q
theorem rNe_eq {x y : V} {H : Hp} {Q : VK} (e : x = y) (s : scal y y = true) (q : Q (.bl false) H) : rNe x y H Q := by
  subst e
  refine ⟨s, ?_⟩
  rw [show decide (x = x) = true from decide_eq_true rfl]
  exact q
theorem lay_BadTaps' : PyData.canLay0 (.str "BadTaps") = true := by decide +kernel
theorem okSh_small {ws : List Int} (l : ws.length ≤ 4) (h : ∀ x ∈ ws, small x) : okSh ws := ⟨Nat.le_trans (trimS_len ws) l, fun x hx => h x (trimS_sub hx)⟩
theorem trim_zeros (ws : List Int) : ∀ n : Nat, trimS (ws ++ List.replicate n 0) = trimS ws
  | 0 => by rw [List.replicate_zero, List.append_nil]
  | n + 1 => by
    rw [List.replicate_succ', ← List.append_assoc, trimS_zero, trim_zeros ws n]
theorem same_made {H H1 : Hp} {x dx : Addr} {o o' : HO} (nx : H x = none) (ndx : H dx = none) (s : Same (upd (upd H dx o) x o') H1) : Same H H1 := fun a u e => s a u (up_pair30 nx ndx a u e)
theorem same_madeM {H H1 : Hp} {x dx : Addr} {o o' : HO} (nx : H x = none) (ndx : H dx = none) (m : MvF [x] (upd (upd H dx o) x o') H1) : Same H H1 := fun a u e => m.kp a u (fun z => by
  rw [List.mem_singleton.mp z, nx] at e
  cases e) (up_pair30 nx ndx a u e)
theorem not4 {a b c d : List Int} (h : ¬ okSh a ∨ ¬ okSh b ∨ ¬ okSh c ∨ ¬ okSh d) : ¬ ok4 a b c d := fun ⟨h0, h1, h2, h3⟩ => by
  rcases h with h | h | h | h
  · exact h h0
  · exact h h1
  · exact h h2
  · exact h h3
theorem sh_made {C x dx l t : Addr} {H G : Hp} (nx : H x = none) (ndx : H dx = none) (m : MvF [x] (upd (upd H dx (.own x)) x (.ins C dx [])) G) (nl : upd (upd H dx (.own x)) x (.ins C dx []) l = none) (h : Shp C x l t z4 G) : Up (tG []) [tSh C x l t z4] H G := up_newTh (N := tSh C x l t z4) (made_same nx ndx m) h (fun a ha => by
  rcases in2u ha with rfl | rfl
  · exact nx
  · exact made_none nl)
theorem wr_made {C x dx f p q : Addr} {H G : Hp} (nx : H x = none) (ndx : H dx = none) (m : MvF [x] (upd (upd H dx (.own x)) x (.ins C dx [])) G) (np : upd (upd H dx (.own x)) x (.ins C dx []) p = none) (nq : upd (upd H dx (.own x)) x (.ins C dx []) q = none) (h : Wr C x f p q z4 z4 G) : Up (tG []) [tWr C x f p q z4 z4] H G := up_newTh (N := tWr C x f p q z4 z4) (made_same nx ndx m) h (fun a ha => by
  rcases List.mem_cons.mp ha with rfl | ha
  · exact nx
  rcases List.mem_cons.mp ha with rfl | ha
  · exact made_none np
  · rw [List.mem_singleton.mp ha]
    exact made_none nq)
theorem fold_in {v : Int} (h0 : -128 ≤ v) (h1 : v < 128) : fold v = v := by unfold fold; omega
theorem fold_out {v : Int} (h : v < -128 ∨ 128 ≤ v) : fold v ≠ v := by unfold fold; omega
theorem neD_tI {H : Hp} {a c : Addr} {ns : List Int} {Q : VK} (h1 : SqT K H a (ns.map V.int)) (h2 : SqT K H c (ns.map V.int)) (q : Q (.bl false) H) : rNeD K (.ref a) (.ref c) H Q := by
  refine ⟨_, _, .tup h1 (dpa_ints _), .tup h2 (dpa_ints _), shaped_tup ns, shaped_tup ns, ?_⟩
  rw [SeqAt.eqv_refl _ (SeqAt.canLay_of_shaped (shaped_tup ns))]
  exact q
theorem wSame_refl (W : W4) (ns ms : List Int) : wSame W W ns ns ms ms = true := by
  unfold wSame
  rw [decide_eq_true (show W.same W from ⟨rfl, rfl, rfl, rfl⟩), decide_eq_true (show ns = ns from rfl), decide_eq_true (show ms = ms from rfl)]
  rfl
theorem zeros_flat (n : Nat) : (List.replicate n [V.int 0]).flatten = (List.replicate n (0 : Int)).map V.int := by
  induction n with
  | zero => rfl
  | succ n ih =>
    rw [List.replicate_succ, List.replicate_succ, List.flatten_cons, ih]
    rfl
theorem okSh_nil : okSh [] := ⟨Nat.zero_le _, fun x h => nomatch h⟩
theorem trim00 : trimS [0, 0] = [] := by decide +kernel
theorem trim0 : trimS [0] = [] := by decide +kernel
theorem okSh00 : okSh [0, 0] := by unfold okSh; rw [trim00]; exact okSh_nil
theorem okSh0 : okSh [0] := by unfold okSh; rw [trim0]; exact okSh_nil
theorem sc_law : FnScope ["_law_script", "_law_bag_here", "_law_turn", "_law_bad", "_law_good", "_law_acts", "_law_act", "_law_shaper", "_law_kept", "_law_odd", "_law_longer"] ["_law_script"] (defScope s_law) := ⟨rfl, rfl, rfl, by decide +kernel, rfl, by decide +kernel, by decide +kernel⟩
set_option maxHeartbeats 0 in
theorem ok_law {f c tP gD CM CS CC CD CR CE CW cN cT cR cM cL aE eE e0 e1' e2' e3' : Addr} {k : Nat} {oc : Value} {od an : Option Addr} {osl : Array (Option Value)} {kV doc pm ct : Value} {ocD : Value} {odD anD : Option Addr} {oslD : Array (Option Value)} {kVD docD pmD cdD ctD : Value}
    (lk : K.lookup f = some ⟨oc, od, .func (PySem.W.fnOf "law" "law" (defArgs s_law) (defBody s_law) (defScope s_law) .none kV doc pm an (.ref c) ct), osl⟩) (hcd : PySem.W.codeIn K (.ref c) "law" = true)
    (TB : LamX.TabB base mg c tP) (gL : mg "LineError" = some (.ref cL))
    (lD : K.lookup gD = some ⟨ocD, odD, .func (PySem.W.fnOf "_law_tried" "_law_tried" (defArgs s__law_tried) (defBody s__law_tried) (defScope s__law_tried) .none kVD docD pmD anD cdD ctD), oslD⟩) (hcD : PySem.W.codeIn K cdD "_law_tried" = true) (kD : PySem.W.keepIn K (.ref gD) = true) (mD : mg "_law_tried" = some (.ref gD))
    (bD : Binds K (PySem.W.fnOf "_law_tried" "_law_tried" (defArgs s__law_tried) (defBody s__law_tried) (defScope s__law_tried) .none kVD docD pmD anD cdD ctD) ["_law_act"] [])
    (xN : XfC K cN) (noN : PySem.W.findIn K (.ref cN) "word" = some none) (xR : XfC K cT) (noR : PySem.W.findIn K (.ref cT) "word" = some none) (gM : mg "Missing" = some (.ref cM)) (nl : PySem.W.exmOne K (.ref cN) (.ref cL) = some true) (nlR : PySem.W.exmOne K (.ref cT) (.ref cL) = some true)
    (n_list : mg "list" = none) (n_range : mg "range" = none) (n_tuple : mg "tuple" = none) (hE0 : ∀ H, SqT K H e0 []) (hE1 : ∀ H, SqT K H e1' []) (hE2 : ∀ H, SqT K H e2' []) (hE3 : ∀ H, SqT K H e3' [])
    (cnx_Shaper : CalNX P w K mg base (k + 2) "Shaper" CS ["self", "shares"] (spShI K CS cT)) (clnx_Shaper : CalNX P w K mg base k "Shaper" CS ["self", "shares"] (spShI K CS cT))
    (clnp_Ear_1_ : CalNP P w K mg base k "Ear" CE ["self", "echo", "rate", "seed"] 1 [] (fun vs zs => vs ++ ([.ref eE] : List V).drop 1 ++ pickL (zs ++ [.int 1, .int 0]) [0, 1]) (spErI K CE CD CR cR cT cN)) (clnp_Mouth_1_ : CalNP P w K mg base k "Mouth" CM ["self", "shares", "rate", "seed"] 1 [] (fun vs zs => vs ++ ([.ref aE] : List V).drop 1 ++ pickL (zs ++ [.int 1, .int 0]) [0, 1]) (spMoI K CM CS CC cR cT cN))
    (clnw_Wire_forth_back : CalNW P w K mg base k "Wire" CW ["self", "forth", "back", "near", "far"] ["forth", "back"] (fun vs zs => vs ++ pickL (zs ++ [.ref e2', .ref e3']) [0, 1, 2, 3]) (spWi K CW cT)) (clnw_Wire_back : CalNW P w K mg base k "Wire" CW ["self", "forth", "back", "near", "far"] ["back"] (fun vs zs => vs ++ pickL (zs ++ [.ref e0, .ref e2', .ref e3']) [1, 0, 2, 3]) (spWi K CW cT))
    (clnw_Wire_near_far : CalNW P w K mg base k "Wire" CW ["self", "forth", "back", "near", "far"] ["near", "far"] (fun vs zs => vs ++ pickL (zs ++ [.ref e0, .ref e1']) [2, 3, 0, 1]) (spWi K CW cT)) (clnw_Wire_far : CalNW P w K mg base k "Wire" CW ["self", "forth", "back", "near", "far"] ["far"] (fun vs zs => vs ++ pickL (zs ++ [.ref e0, .ref e1', .ref e2']) [1, 2, 3, 0]) (spWi K CW cT))
    (cnw_Wire_near : CalNW P w K mg base (k + 2) "Wire" CW ["self", "forth", "back", "near", "far"] ["near"] (fun vs zs => vs ++ pickL (zs ++ [.ref e0, .ref e1', .ref e3']) [1, 2, 0, 3]) (spWi K CW cT)) (cnw_Wire_far : CalNW P w K mg base (k + 2) "Wire" CW ["self", "forth", "back", "near", "far"] ["far"] (fun vs zs => vs ++ pickL (zs ++ [.ref e0, .ref e1', .ref e2']) [1, 2, 3, 0]) (spWi K CW cT))
    (cnw_Wire_forth_back : CalNW P w K mg base (k + 2) "Wire" CW ["self", "forth", "back", "near", "far"] ["forth", "back"] (fun vs zs => vs ++ pickL (zs ++ [.ref e2', .ref e3']) [0, 1, 2, 3]) (spWi K CW cT)) (cnd_Wire : CalND P w K mg base (k + 2) "Wire" CW ["self", "forth", "back", "near", "far"] [.ref e0, .ref e1', .ref e2', .ref e3'] (spWi K CW cT))
    (c_Shaper_say : CalM (L2.CX P w) P w K mg base (k + 3) CS "say" ["self", "value"] (spSay K CS cN)) (cl_Shaper_say : CalM (L2.CX P w) P w K mg base (k + 1) CS "say" ["self", "value"] (spSay K CS cN)) (c_Shaper_past : CalM CX0 P w K mg base (k + 3) CS "past" ["self"] (spPast CS)) (c_Wire_shares : CalM CX0 P w K mg base (k + 3) CW "shares" ["self"] (spWShares CW)) (oe_Wire : EqF P w K mg base (k + 1) CW (spWEq K CW))
    (ki : PySem.W.subIn K (.type "int") (.ref CW) = some false) (ks : PySem.W.subIn K (.type "str") (.ref CW) = some false) (ti : PySem.W.kitOne K (.type "int") (.ref CW) = some false) (ts : PySem.W.kitOne K (.type "str") (.ref CW) = some false)
    (c__law_bag : Cal P w K mg base (k + 3) "_law_bag" ["_law_script"] (spBag K)) (c__law_pick : Cal P w K mg base (k + 3) "_law_pick" ["_law_bag_here", "_law_top"] spPickW) (c__law_of : Cal P w K mg base (k + 3) "_law_of" ["_law_bag_here", "_law_some"] (spOf K))
    (c__law_shares : Cal P w K mg base (k + 3) "_law_shares" ["_law_bag_here"] (spShares K)) (c__law_trimmed : Cal P w K mg base (k + 3) "_law_trimmed" ["_law_figures"] (spTrim K)) (c__law_bad_shares : Cal P w K mg base (k + 3) "_law_bad_shares" ["_law_bag_here"] spBadSh) (c__law_noughts_behind : Cal P w K mg base (k + 3) "_law_noughts_behind" ["_law_bag_here", "_law_good", "_law_longer"] (spNought K)) :
    FnOk P w K mg base CX0 (k + 4) f (PySem.W.fnOf "law" "law" (defArgs s_law) (defBody s_law) (defScope s_law) .none kV doc pm an (.ref c) ct) ["_law_script"] (spLaw K tP) := by
  have sc := sc_law
  refine okL lk hcd sc (fun vs H Q E h => ?_) (fun A outer s H vs Q E hr h => ?_)
  · obtain ⟨a, ns, rfl, _⟩ := h
    rfl
  · obtain ⟨a, ns, rfl, hS, hT0, q⟩ := h
    have LA__law_tried : LamTo (cxOf CX0 P w K mg base ["_law_script", "_law_bag_here", "_law_turn", "_law_bad", "_law_good", "_law_acts", "_law_act", "_law_shaper", "_law_kept", "_law_odd", "_law_longer"] "law" (defScope s_law) f (.ref c) A outer s H E).nox [(tP, qLam)] "_law_tried" (TTried2 cN "BadCount" cT "BadTaps") := fun {params body scope t p lpos pos k} hr L hd hbn hbody =>
      LamX.pe_lamcall (by rfl) mD kD lD hcD bD sc__law_tried rfl (.inl rfl) (tried2_gives xN noN xR noR gL gM nl nlR) TB rfl (List.mem_singleton.mpr rfl) (fun p hp _ => by rw [List.mem_singleton.mp hp]; rfl) hr L hd hbn hbody
    refine ⟨_, (pss_cons (ps_set (i := 1) sc.nd rfl (.inl rfl) (pe_callC c__law_bag hr (by rfl) (pa_cons (pv 0) pa_nil)))
 (pss_cons (ps_for PassesOwn.never rfl (pi_range1 (by rfl) n_range (pa_cons pe_int pa_nil)) (pg_name (i := 2) sc.nd rfl (.inl rfl))
  (pss_cons (ps_set (i := 3) sc.nd rfl (.inr rfl) (pe_callC c__law_bad_shares hr (by rfl) (pa_cons (pv 1) pa_nil)))
 (pss_cons (ps_set (i := 4) sc.nd rfl (.inr rfl) (pe_callC c__law_shares hr (by rfl) (pa_cons (pv 1) pa_nil)))
 (by exact pss_lamset (X := ((cxOf CX0 P w K mg base ["_law_script", "_law_bag_here", "_law_turn", "_law_bad", "_law_good", "_law_acts", "_law_act", "_law_shaper", "_law_kept", "_law_odd", "_law_longer"] "law" (defScope s_law) f (.ref c) A outer s H E).nox)) (i := 5) (q := qLam) rfl rfl rfl sc.nd rfl (.inl rfl) (T := [(tP, qLam)]) TB rfl (List.mem_singleton.mpr rfl) (fun p hp _ => by cases List.mem_singleton.mp hp; rfl) (LamX.lamS_by (sc := defScope s_law) (by decide +kernel)) rfl (fun f1 c1 pm1 ct1 pn1 hfr1 hp1 hs1 =>
 (by exact pss_lamapp (X := (Cx.tr ((cxOf CX0 P w K mg base ["_law_script", "_law_bag_here", "_law_turn", "_law_bad", "_law_good", "_law_acts", "_law_act", "_law_shaper", "_law_kept", "_law_odd", "_law_longer"] "law" (defScope s_law) f (.ref c) A outer s H E).nox) pn1 (Cx.xe ((cxOf CX0 P w K mg base ["_law_script", "_law_bag_here", "_law_turn", "_law_bad", "_law_good", "_law_acts", "_law_act", "_law_shaper", "_law_kept", "_law_odd", "_law_longer"] "law" (defScope s_law) f (.ref c) A outer s H E).nox)))) (i := 5) (q := qLam) rfl rfl rfl (pv 5) (T := [(tP, qLam)]) TB rfl (List.mem_singleton.mpr rfl) (fun p hp _ => by cases List.mem_singleton.mp hp; rfl) (LamX.lamS_by (sc := defScope s_law) (by decide +kernel)) rfl (fun f2 c2 pm2 ct2 pn2 hfr2 hp2 hs2 =>
 (by exact pss_lamapp (X := (Cx.tr ((cxOf CX0 P w K mg base ["_law_script", "_law_bag_here", "_law_turn", "_law_bad", "_law_good", "_law_acts", "_law_act", "_law_shaper", "_law_kept", "_law_odd", "_law_longer"] "law" (defScope s_law) f (.ref c) A outer s H E).nox) pn2 (Cx.xe ((cxOf CX0 P w K mg base ["_law_script", "_law_bag_here", "_law_turn", "_law_bad", "_law_good", "_law_acts", "_law_act", "_law_shaper", "_law_kept", "_law_odd", "_law_longer"] "law" (defScope s_law) f (.ref c) A outer s H E).nox)))) (i := 5) (q := qLam) rfl rfl rfl (pv 5) (T := [(tP, qLam)]) TB rfl (List.mem_singleton.mpr rfl) (fun p hp _ => by cases List.mem_singleton.mp hp; rfl) (LamX.lamS_by (sc := defScope s_law) (by decide +kernel)) rfl (fun f3 c3 pm3 ct3 pn3 hfr3 hp3 hs3 =>
 (by exact pss_lamapp (X := (Cx.tr ((cxOf CX0 P w K mg base ["_law_script", "_law_bag_here", "_law_turn", "_law_bad", "_law_good", "_law_acts", "_law_act", "_law_shaper", "_law_kept", "_law_odd", "_law_longer"] "law" (defScope s_law) f (.ref c) A outer s H E).nox) pn3 (Cx.xe ((cxOf CX0 P w K mg base ["_law_script", "_law_bag_here", "_law_turn", "_law_bad", "_law_good", "_law_acts", "_law_act", "_law_shaper", "_law_kept", "_law_odd", "_law_longer"] "law" (defScope s_law) f (.ref c) A outer s H E).nox)))) (i := 5) (q := qLam) rfl rfl rfl (pv 5) (T := [(tP, qLam)]) TB rfl (List.mem_singleton.mpr rfl) (fun p hp _ => by cases List.mem_singleton.mp hp; rfl) (LamX.lamS_by (sc := defScope s_law) (by decide +kernel)) rfl (fun f4 c4 pm4 ct4 pn4 hfr4 hp4 hs4 =>
 (by exact pss_lamapp (X := (Cx.tr ((cxOf CX0 P w K mg base ["_law_script", "_law_bag_here", "_law_turn", "_law_bad", "_law_good", "_law_acts", "_law_act", "_law_shaper", "_law_kept", "_law_odd", "_law_longer"] "law" (defScope s_law) f (.ref c) A outer s H E).nox) pn4 (Cx.xe ((cxOf CX0 P w K mg base ["_law_script", "_law_bag_here", "_law_turn", "_law_bad", "_law_good", "_law_acts", "_law_act", "_law_shaper", "_law_kept", "_law_odd", "_law_longer"] "law" (defScope s_law) f (.ref c) A outer s H E).nox)))) (i := 5) (q := qLam) rfl rfl rfl (pv 5) (T := [(tP, qLam)]) TB rfl (List.mem_singleton.mpr rfl) (fun p hp _ => by cases List.mem_singleton.mp hp; rfl) (LamX.lamS_by (sc := defScope s_law) (by decide +kernel)) rfl (fun f5 c5 pm5 ct5 pn5 hfr5 hp5 hs5 =>
 (by exact pss_lamapp (X := (Cx.tr ((cxOf CX0 P w K mg base ["_law_script", "_law_bag_here", "_law_turn", "_law_bad", "_law_good", "_law_acts", "_law_act", "_law_shaper", "_law_kept", "_law_odd", "_law_longer"] "law" (defScope s_law) f (.ref c) A outer s H E).nox) pn5 (Cx.xe ((cxOf CX0 P w K mg base ["_law_script", "_law_bag_here", "_law_turn", "_law_bad", "_law_good", "_law_acts", "_law_act", "_law_shaper", "_law_kept", "_law_odd", "_law_longer"] "law" (defScope s_law) f (.ref c) A outer s H E).nox)))) (i := 5) (q := qLam) rfl rfl rfl (pv 5) (T := [(tP, qLam)]) TB rfl (List.mem_singleton.mpr rfl) (fun p hp _ => by cases List.mem_singleton.mp hp; rfl) (LamX.lamS_by (sc := defScope s_law) (by decide +kernel)) rfl (fun f6 c6 pm6 ct6 pn6 hfr6 hp6 hs6 =>
 (by exact pss_lamapp (X := (Cx.tr ((cxOf CX0 P w K mg base ["_law_script", "_law_bag_here", "_law_turn", "_law_bad", "_law_good", "_law_acts", "_law_act", "_law_shaper", "_law_kept", "_law_odd", "_law_longer"] "law" (defScope s_law) f (.ref c) A outer s H E).nox) pn6 (Cx.xe ((cxOf CX0 P w K mg base ["_law_script", "_law_bag_here", "_law_turn", "_law_bad", "_law_good", "_law_acts", "_law_act", "_law_shaper", "_law_kept", "_law_odd", "_law_longer"] "law" (defScope s_law) f (.ref c) A outer s H E).nox)))) (i := 5) (q := qLam) rfl rfl rfl (pv 5) (T := [(tP, qLam)]) TB rfl (List.mem_singleton.mpr rfl) (fun p hp _ => by cases List.mem_singleton.mp hp; rfl) (LamX.lamS_by (sc := defScope s_law) (by decide +kernel)) rfl (fun f7 c7 pm7 ct7 pn7 hfr7 hp7 hs7 =>
 (pss_cons (ps_for PassesOwn.never rfl (pi_listK K rfl (pv 5)) (pg_name (i := 6) sc.nd rfl (.inl rfl))
  (pss_one (ps_if (pt_cmpR (op_neDK K rfl hr.units) (pe_or2 (pe_actname (X := (Cx.tr ((cxOf CX0 P w K mg base ["_law_script", "_law_bag_here", "_law_turn", "_law_bad", "_law_good", "_law_acts", "_law_act", "_law_shaper", "_law_kept", "_law_odd", "_law_longer"] "law" (defScope s_law) f (.ref c) A outer s H E).nox) pn7 (Cx.xe ((cxOf CX0 P w K mg base ["_law_script", "_law_bag_here", "_law_turn", "_law_bad", "_law_good", "_law_acts", "_law_act", "_law_shaper", "_law_kept", "_law_odd", "_law_longer"] "law" (defScope s_law) f (.ref c) A outer s H E).nox)))) (q := qLam) rfl (hs7 _ (hs6 _ (hs5 _ (hs4 _ (hs3 _ (hs2 _ hp1)))))) hfr1 (by rfl) mD kD lD hcD bD sc__law_tried rfl (.inl rfl) (tried2_gives (nm1 := "BadCount") (nm2 := "BadTaps") xN noN xR noR gL gM nl nlR) hr (LamX.lamS_by (sc := defScope s_law) (by decide +kernel)) (fun _ _ _ _ _ => rfl) (fun A outer s H E f c2 hr => (pe_makeW clnw_Wire_forth_back hr (passes_call (takes_of rfl rfl rfl rfl) (fun _ _ _ _ h => h)) (by rfl) (pk_cons (pv 3) (pk_cons (pv 4) pk_nil)))) (pv 6)) (pe_or2 (pe_actname (X := (Cx.tr ((cxOf CX0 P w K mg base ["_law_script", "_law_bag_here", "_law_turn", "_law_bad", "_law_good", "_law_acts", "_law_act", "_law_shaper", "_law_kept", "_law_odd", "_law_longer"] "law" (defScope s_law) f (.ref c) A outer s H E).nox) pn7 (Cx.xe ((cxOf CX0 P w K mg base ["_law_script", "_law_bag_here", "_law_turn", "_law_bad", "_law_good", "_law_acts", "_law_act", "_law_shaper", "_law_kept", "_law_odd", "_law_longer"] "law" (defScope s_law) f (.ref c) A outer s H E).nox)))) (q := qLam) rfl (hs7 _ (hs6 _ (hs5 _ (hs4 _ (hs3 _ hp2))))) hfr2 (by rfl) mD kD lD hcD bD sc__law_tried rfl (.inl rfl) (tried2_gives (nm1 := "BadCount") (nm2 := "BadTaps") xN noN xR noR gL gM nl nlR) hr (LamX.lamS_by (sc := defScope s_law) (by decide +kernel)) (fun _ _ _ _ _ => rfl) (fun A outer s H E f c2 hr => (pe_makeW clnw_Wire_back hr (passes_call (takes_of rfl rfl rfl rfl) (fun _ _ _ _ h => h)) (by rfl) (pk_cons (pv 3) pk_nil))) (pv 6)) (pe_or2 (pe_actname (X := (Cx.tr ((cxOf CX0 P w K mg base ["_law_script", "_law_bag_here", "_law_turn", "_law_bad", "_law_good", "_law_acts", "_law_act", "_law_shaper", "_law_kept", "_law_odd", "_law_longer"] "law" (defScope s_law) f (.ref c) A outer s H E).nox) pn7 (Cx.xe ((cxOf CX0 P w K mg base ["_law_script", "_law_bag_here", "_law_turn", "_law_bad", "_law_good", "_law_acts", "_law_act", "_law_shaper", "_law_kept", "_law_odd", "_law_longer"] "law" (defScope s_law) f (.ref c) A outer s H E).nox)))) (q := qLam) rfl (hs7 _ (hs6 _ (hs5 _ (hs4 _ hp3)))) hfr3 (by rfl) mD kD lD hcD bD sc__law_tried rfl (.inl rfl) (tried2_gives (nm1 := "BadCount") (nm2 := "BadTaps") xN noN xR noR gL gM nl nlR) hr (LamX.lamS_by (sc := defScope s_law) (by decide +kernel)) (fun _ _ _ _ _ => rfl) (fun A outer s H E f c2 hr => (pe_makeW clnw_Wire_near_far hr (passes_call (takes_of rfl rfl rfl rfl) (fun _ _ _ _ h => h)) (by rfl) (pk_cons (pv 3) (pk_cons (pv 4) pk_nil)))) (pv 6)) (pe_or2 (pe_actname (X := (Cx.tr ((cxOf CX0 P w K mg base ["_law_script", "_law_bag_here", "_law_turn", "_law_bad", "_law_good", "_law_acts", "_law_act", "_law_shaper", "_law_kept", "_law_odd", "_law_longer"] "law" (defScope s_law) f (.ref c) A outer s H E).nox) pn7 (Cx.xe ((cxOf CX0 P w K mg base ["_law_script", "_law_bag_here", "_law_turn", "_law_bad", "_law_good", "_law_acts", "_law_act", "_law_shaper", "_law_kept", "_law_odd", "_law_longer"] "law" (defScope s_law) f (.ref c) A outer s H E).nox)))) (q := qLam) rfl (hs7 _ (hs6 _ (hs5 _ hp4))) hfr4 (by rfl) mD kD lD hcD bD sc__law_tried rfl (.inl rfl) (tried2_gives (nm1 := "BadCount") (nm2 := "BadTaps") xN noN xR noR gL gM nl nlR) hr (LamX.lamS_by (sc := defScope s_law) (by decide +kernel)) (fun _ _ _ _ _ => rfl) (fun A outer s H E f c2 hr => (pe_makeW clnw_Wire_far hr (passes_call (takes_of rfl rfl rfl rfl) (fun _ _ _ _ h => h)) (by rfl) (pk_cons (pv 3) pk_nil))) (pv 6)) (pe_or2 (pe_actname (X := (Cx.tr ((cxOf CX0 P w K mg base ["_law_script", "_law_bag_here", "_law_turn", "_law_bad", "_law_good", "_law_acts", "_law_act", "_law_shaper", "_law_kept", "_law_odd", "_law_longer"] "law" (defScope s_law) f (.ref c) A outer s H E).nox) pn7 (Cx.xe ((cxOf CX0 P w K mg base ["_law_script", "_law_bag_here", "_law_turn", "_law_bad", "_law_good", "_law_acts", "_law_act", "_law_shaper", "_law_kept", "_law_odd", "_law_longer"] "law" (defScope s_law) f (.ref c) A outer s H E).nox)))) (q := qLam) rfl (hs7 _ (hs6 _ hp5)) hfr5 (by rfl) mD kD lD hcD bD sc__law_tried rfl (.inl rfl) (tried2_gives (nm1 := "BadCount") (nm2 := "BadTaps") xN noN xR noR gL gM nl nlR) hr (LamX.lamS_by (sc := defScope s_law) (by decide +kernel)) (fun _ _ _ _ _ => rfl) (fun A outer s H E f c2 hr => (pe_makeX clnx_Shaper hr (passes_call (takes_of rfl rfl rfl rfl) (fun _ _ _ _ h => h)) (by rfl) (pa_cons (pv 3) pa_nil))) (pv 6)) (pe_or2 (pe_actname (X := (Cx.tr ((cxOf CX0 P w K mg base ["_law_script", "_law_bag_here", "_law_turn", "_law_bad", "_law_good", "_law_acts", "_law_act", "_law_shaper", "_law_kept", "_law_odd", "_law_longer"] "law" (defScope s_law) f (.ref c) A outer s H E).nox) pn7 (Cx.xe ((cxOf CX0 P w K mg base ["_law_script", "_law_bag_here", "_law_turn", "_law_bad", "_law_good", "_law_acts", "_law_act", "_law_shaper", "_law_kept", "_law_odd", "_law_longer"] "law" (defScope s_law) f (.ref c) A outer s H E).nox)))) (q := qLam) rfl (hs7 _ hp6) hfr6 (by rfl) mD kD lD hcD bD sc__law_tried rfl (.inl rfl) (tried2_gives (nm1 := "BadCount") (nm2 := "BadTaps") xN noN xR noR gL gM nl nlR) hr (LamX.lamS_by (sc := defScope s_law) (by decide +kernel)) (fun _ _ _ _ _ => rfl) (fun A outer s H E f c2 hr => (pe_makeP clnp_Ear_1_ hr (passes_call (takes_of rfl rfl rfl rfl) (fun _ _ _ _ h => h)) (by rfl) (pa_cons (pv 3) pa_nil) pk_nil)) (pv 6)) (pe_actname (X := (Cx.tr ((cxOf CX0 P w K mg base ["_law_script", "_law_bag_here", "_law_turn", "_law_bad", "_law_good", "_law_acts", "_law_act", "_law_shaper", "_law_kept", "_law_odd", "_law_longer"] "law" (defScope s_law) f (.ref c) A outer s H E).nox) pn7 (Cx.xe ((cxOf CX0 P w K mg base ["_law_script", "_law_bag_here", "_law_turn", "_law_bad", "_law_good", "_law_acts", "_law_act", "_law_shaper", "_law_kept", "_law_odd", "_law_longer"] "law" (defScope s_law) f (.ref c) A outer s H E).nox)))) (q := qLam) rfl hp7 hfr7 (by rfl) mD kD lD hcD bD sc__law_tried rfl (.inl rfl) (tried2_gives (nm1 := "BadCount") (nm2 := "BadTaps") xN noN xR noR gL gM nl nlR) hr (LamX.lamS_by (sc := defScope s_law) (by decide +kernel)) (fun _ _ _ _ _ => rfl) (fun A outer s H E f c2 hr => (pe_makeP clnp_Mouth_1_ hr (passes_call (takes_of rfl rfl rfl rfl) (fun _ _ _ _ h => h)) (by rfl) (pa_cons (pv 3) pa_nil) pk_nil)) (pv 6)))))))) (pe_tup (pa_cons pe_str (pa_cons pe_str pa_nil))) (nomark _))
  (pss_one (ps_ret pe_bl))
  pss_nil)))
 (pss_cons (ps_set (i := 7) sc.nd rfl (.inr rfl) (pe_makeXF cnx_Shaper hr (by rfl) (pa_cons (pv 4) pa_nil)))
 (pss_cons (ps_expr (pe_methF (pv 7) c_Shaper_say hr (pa_cons (pe_op op_sub (pe_callC c__law_pick hr (by rfl) (pa_cons (pv 1) (pa_cons pe_int pa_nil))) pe_int) pa_nil)))
 (pss_cons (ps_set (i := 8) sc.nd rfl (.inl rfl) (pe_methC0 (pv 7) c_Shaper_past hr))
 (pss_cons (ps_set (i := 9) sc.nd rfl (.inr rfl) (pe_callC c__law_of hr (by rfl) (pa_cons (pv 1) (pa_cons (pe_lst (pa_cons pe_int (pa_cons (pe_un un_neg pe_int) (pa_cons (pe_op op_add pe_int (pe_callC c__law_pick hr (by rfl) (pa_cons (pv 1) (pa_cons (pe_op op_pow pe_int pe_int) pa_nil)))) (pa_cons (pe_op op_sub (pe_un un_neg pe_int) (pe_callC c__law_pick hr (by rfl) (pa_cons (pv 1) (pa_cons (pe_op op_pow pe_int pe_int) pa_nil)))) pa_nil))))) pa_nil))))
 (pss_cons (ps_if (PW.pt (pw_or (pt_cmpR (op_neDK K rfl hr.units) (LamX.pe_lamcall (X := (Cx.tr ((cxOf CX0 P w K mg base ["_law_script", "_law_bag_here", "_law_turn", "_law_bad", "_law_good", "_law_acts", "_law_act", "_law_shaper", "_law_kept", "_law_odd", "_law_longer"] "law" (defScope s_law) f (.ref c) A outer s H E).nox) pn7 (Cx.xe ((cxOf CX0 P w K mg base ["_law_script", "_law_bag_here", "_law_turn", "_law_bad", "_law_good", "_law_acts", "_law_act", "_law_shaper", "_law_kept", "_law_odd", "_law_longer"] "law" (defScope s_law) f (.ref c) A outer s H E).nox)))) (T := [(tP, qLam)]) (by rfl) mD kD lD hcD bD sc__law_tried rfl (.inl rfl) (tried2_gives (nm1 := "BadCount") (nm2 := "BadTaps") xN noN xR noR gL gM nl nlR) TB rfl (List.mem_singleton.mpr rfl) (fun p hp _ => by rw [List.mem_singleton.mp hp]; rfl) hr (LamX.lamS_by (sc := defScope s_law) (by decide +kernel)) rfl (fun _ _ _ _ _ => rfl) (fun A outer s H E f c2 hr => (pe_methP (pv 7) cl_Shaper_say hr (passes_call (takes_of rfl rfl rfl rfl) (fun _ _ _ _ h => h)) (pa_cons (pv 9) pa_nil)))) (pe_tup (pa_cons pe_str (pa_cons pe_str pa_nil))) (nomark _)) (pw_or1 (pt_cmpR (op_neDK K rfl hr.units) (pe_methC0 (pv 7) c_Shaper_past hr) (pv 8) (nomark _)))))
  (pss_one (ps_ret pe_bl))
  pss_nil)
 (pss_cons (ps_set (i := 10) sc.nd rfl (.inl rfl) (pe_callTy (call_tupleK K rfl) (by rfl) n_tuple (by decide +kernel) (pa_cons (pe_op op_cat (pe_callTy (call_listK K rfl) (by rfl) n_list (by decide +kernel) (pa_cons (pv 4) pa_nil)) (pe_op op_rep (pe_lst (pa_cons pe_int pa_nil)) (pe_callC c__law_pick hr (by rfl) (pa_cons (pv 1) (pa_cons pe_int pa_nil))))) pa_nil)))
 (pss_cons (ps_if (PW.pt (pw_or (pt_cmpR (op_neO oe_Wire (hr.mono (by omega))) (pe_makeWF cnw_Wire_near hr (by rfl) (pk_cons (pv 4) pk_nil)) (pe_makeWF cnw_Wire_near hr (by rfl) (pk_cons (pv 10) pk_nil)) (nomark _)) (pw_or1 (pt_cmpR (op_neDK K rfl hr.units) (pe_ix (ix_tupK K rfl) (pe_methC0 (pe_makeWF cnw_Wire_far hr (by rfl) (pk_cons (pv 10) pk_nil)) c_Wire_shares hr) pe_int (fun _ _ => rfl)) (pe_callC c__law_trimmed hr (by rfl) (pa_cons (pv 4) pa_nil)) (nomark _)))))
  (pss_one (ps_ret pe_bl))
  pss_nil)
 (pss_one (ps_if (PW.pt (pw_or (pt_cmpR op_ne (pe_methF (pe_makeXF cnx_Shaper hr (by rfl) (pa_cons (pv 10) pa_nil)) c_Shaper_say hr (pa_cons pe_int pa_nil)) (pe_methF (pe_makeXF cnx_Shaper hr (by rfl) (pa_cons (pv 4) pa_nil)) c_Shaper_say hr (pa_cons pe_int pa_nil)) (nomark _)) (pw_or1 (pt_not (pt_val (pe_callC c__law_noughts_behind hr (by rfl) (pa_cons (pv 1) (pa_cons (pv 4) (pa_cons (pv 10) pa_nil)))))))))
  (pss_one (ps_ret pe_bl))
  pss_nil)))))))))))))))))))))))))))
 (pss_one (ps_ret (pe_and (pe_cmpR (op_eqO oe_Wire (hr.mono (by omega))) (pe_makeDF cnd_Wire hr (by rfl)) (pe_makeWF cnw_Wire_forth_back hr (by rfl) (pk_cons (pe_tup (pa_cons pe_int (pa_cons pe_int pa_nil))) (pk_cons (pe_tup (pa_cons pe_int pa_nil)) pk_nil))) (nomark _)) (pe_and (pe_cmpR (op_neY K rfl oe_Wire (hr.mono (by omega))) (pe_makeDF cnd_Wire hr (by rfl)) pe_int (nomark _)) (pe_one (pe_not (pe_cmpR (op_eqY K rfl oe_Wire (hr.mono (by omega))) (pe_makeDF cnd_Wire hr (by rfl)) pe_str (nomark _)))))))))), ?_⟩
    have okr : okR (1 : Int) := ⟨by decide, by decide⟩
    have hT : LamX.Tabs [(tP, qLam)] H := fun p hp => by rw [List.mem_singleton.mp hp]; exact LamX.TabS.nil hT0
    rw [start1]
    dsimp only [List.map]
    refine ⟨_, rfl, a, ns, rfl, hS, fun H1 b s1 nb hB => ?_⟩
    have h1 : Hw K [] [(tP, qLam)] [tB b] H1 := Hw.of ((Hs.nil (hT.ext s1)).cons hB (fun j y hj => by cases hj))
    clear s1 nb hS hB hT hT0
    refine name_by ?_
    try dsimp only
    refine ⟨3, rfl, by decide, by decide, for_range (lo := 0) (n := 3) (fun i σ H' => ∃ y2 y3 y4 y5 y6 y7 y8 y9 y10, σ = [some (.ref a), some (.ref b.1), y2, y3, y4, y5, y6, y7, y8, y9, y10] ∧ Hw K [] [(tP, qLam)] [tB b] H') ⟨none, none, none, none, none, none, none, none, none, rfl, h1⟩ ?_ ?_⟩
    · clear h1
      rintro i σ H1 hi ⟨y2, y3, y4, y5, y6, y7, y8, y9, y10, rfl, h1⟩
      refine name_by ?_
      try dsimp only
      refine ⟨_, rfl, b, rfl, h1.bag, fun H2 bt bw mv2 hB2 nbt ebt lbw nbad => ?_⟩
      have h2 := (h1.mv mv2 hB2).know (SqT.of ebt)
      clear h1 mv2 hB2 nbt ebt
      refine name_by ?_
      try dsimp only
      refine ⟨_, rfl, b, rfl, h2.bag, fun H3 gt gw mv3 hB3 ngt egt lgw sgw => ?_⟩
      have h3 := (h2.mv mv3 hB3).know (SqT.of egt)
      have okg : okSh gw := okSh_small lgw sgw
      clear h2 mv3 hB3 ngt egt sgw
      refine name_by ?_
      try dsimp only
      -- the lambdas
      refine ⟨h3.hs.tab, fun f1 c1 H4 ex4 tb4 _ hc1 pa npa => ?_⟩
      have h4 := (h3.extX ex4 tb4).newU (o := .lst [.ref f1]) npa
      have hc1 := same_codeO (same_upd (o := .lst [.ref f1]) npa) hc1
      generalize upd H4 pa (.lst [.ref f1]) = H5 at h4 hc1 ⊢
      clear h3 ex4 tb4 npa
      try dsimp only [List.set]
      refine ⟨h4.hs.tab, pa, _, rfl, h4.at 1 rfl, (by show 1 < sizeLine; decide), fun f2 c2 G2 ex tb _ hc2 => ?_⟩
      have e1 := h4.extX ex tb
      have hc1 := codeO_upd (o := .lst [.ref f1, .ref f2]) (e1.at 1 rfl) (ex _ _ hc1 (fun ps => LamX.codeO_ne ps))
      have hc2 := codeO_upd (o := .lst [.ref f1, .ref f2]) (e1.at 1 rfl) hc2
      have h5 : Hw K [(gt, gw.map V.int), (bt, bw.map V.int)] [(tP, qLam)] [tB b, tL pa [.ref f1, .ref f2]] (upd G2 pa (.lst [.ref f1, .ref f2])) := e1.put (ys := [.ref f1, .ref f2]) 1 rfl
      dsimp only [List.append_eq, List.cons_append, List.nil_append]
      generalize upd G2 pa (.lst [.ref f1, .ref f2]) = G2' at h5 hc1 hc2 ⊢
      clear e1 ex tb h4
      refine ⟨h5.hs.tab, pa, _, rfl, h5.at 1 rfl, (by show 2 < sizeLine; decide), fun f3 c3 G3 ex tb _ hc3 => ?_⟩
      have e1 := h5.extX ex tb
      have hc1 := codeO_upd (o := .lst [.ref f1, .ref f2, .ref f3]) (e1.at 1 rfl) (ex _ _ hc1 (fun ps => LamX.codeO_ne ps))
      have hc2 := codeO_upd (o := .lst [.ref f1, .ref f2, .ref f3]) (e1.at 1 rfl) (ex _ _ hc2 (fun ps => LamX.codeO_ne ps))
      have hc3 := codeO_upd (o := .lst [.ref f1, .ref f2, .ref f3]) (e1.at 1 rfl) hc3
      have h6 : Hw K [(gt, gw.map V.int), (bt, bw.map V.int)] [(tP, qLam)] [tB b, tL pa [.ref f1, .ref f2, .ref f3]] (upd G3 pa (.lst [.ref f1, .ref f2, .ref f3])) := e1.put (ys := [.ref f1, .ref f2, .ref f3]) 1 rfl
      dsimp only [List.append_eq, List.cons_append, List.nil_append]
      generalize upd G3 pa (.lst [.ref f1, .ref f2, .ref f3]) = G3' at h6 hc1 hc2 hc3 ⊢
      clear e1 ex tb h5
      refine ⟨h6.hs.tab, pa, _, rfl, h6.at 1 rfl, (by show 3 < sizeLine; decide), fun f4 c4 G4 ex tb _ hc4 => ?_⟩
      have e1 := h6.extX ex tb
      have hc1 := codeO_upd (o := .lst [.ref f1, .ref f2, .ref f3, .ref f4]) (e1.at 1 rfl) (ex _ _ hc1 (fun ps => LamX.codeO_ne ps))
      have hc2 := codeO_upd (o := .lst [.ref f1, .ref f2, .ref f3, .ref f4]) (e1.at 1 rfl) (ex _ _ hc2 (fun ps => LamX.codeO_ne ps))
      have hc3 := codeO_upd (o := .lst [.ref f1, .ref f2, .ref f3, .ref f4]) (e1.at 1 rfl) (ex _ _ hc3 (fun ps => LamX.codeO_ne ps))
      have hc4 := codeO_upd (o := .lst [.ref f1, .ref f2, .ref f3, .ref f4]) (e1.at 1 rfl) hc4
      have h7 : Hw K [(gt, gw.map V.int), (bt, bw.map V.int)] [(tP, qLam)] [tB b, tL pa [.ref f1, .ref f2, .ref f3, .ref f4]] (upd G4 pa (.lst [.ref f1, .ref f2, .ref f3, .ref f4])) := e1.put (ys := [.ref f1, .ref f2, .ref f3, .ref f4]) 1 rfl
      dsimp only [List.append_eq, List.cons_append, List.nil_append]
      generalize upd G4 pa (.lst [.ref f1, .ref f2, .ref f3, .ref f4]) = G4' at h7 hc1 hc2 hc3 hc4 ⊢
      clear e1 ex tb h6
      refine ⟨h7.hs.tab, pa, _, rfl, h7.at 1 rfl, (by show 4 < sizeLine; decide), fun f5 c5 G5 ex tb _ hc5 => ?_⟩
      have e1 := h7.extX ex tb
      have hc1 := codeO_upd (o := .lst [.ref f1, .ref f2, .ref f3, .ref f4, .ref f5]) (e1.at 1 rfl) (ex _ _ hc1 (fun ps => LamX.codeO_ne ps))
      have hc2 := codeO_upd (o := .lst [.ref f1, .ref f2, .ref f3, .ref f4, .ref f5]) (e1.at 1 rfl) (ex _ _ hc2 (fun ps => LamX.codeO_ne ps))
      have hc3 := codeO_upd (o := .lst [.ref f1, .ref f2, .ref f3, .ref f4, .ref f5]) (e1.at 1 rfl) (ex _ _ hc3 (fun ps => LamX.codeO_ne ps))
      have hc4 := codeO_upd (o := .lst [.ref f1, .ref f2, .ref f3, .ref f4, .ref f5]) (e1.at 1 rfl) (ex _ _ hc4 (fun ps => LamX.codeO_ne ps))
      have hc5 := codeO_upd (o := .lst [.ref f1, .ref f2, .ref f3, .ref f4, .ref f5]) (e1.at 1 rfl) hc5
      have h8 : Hw K [(gt, gw.map V.int), (bt, bw.map V.int)] [(tP, qLam)] [tB b, tL pa [.ref f1, .ref f2, .ref f3, .ref f4, .ref f5]] (upd G5 pa (.lst [.ref f1, .ref f2, .ref f3, .ref f4, .ref f5])) := e1.put (ys := [.ref f1, .ref f2, .ref f3, .ref f4, .ref f5]) 1 rfl
      dsimp only [List.append_eq, List.cons_append, List.nil_append]
      generalize upd G5 pa (.lst [.ref f1, .ref f2, .ref f3, .ref f4, .ref f5]) = G5' at h8 hc1 hc2 hc3 hc4 hc5 ⊢
      clear e1 ex tb h7
      refine ⟨h8.hs.tab, pa, _, rfl, h8.at 1 rfl, (by show 5 < sizeLine; decide), fun f6 c6 G6 ex tb _ hc6 => ?_⟩
      have e1 := h8.extX ex tb
      have hc1 := codeO_upd (o := .lst [.ref f1, .ref f2, .ref f3, .ref f4, .ref f5, .ref f6]) (e1.at 1 rfl) (ex _ _ hc1 (fun ps => LamX.codeO_ne ps))
      have hc2 := codeO_upd (o := .lst [.ref f1, .ref f2, .ref f3, .ref f4, .ref f5, .ref f6]) (e1.at 1 rfl) (ex _ _ hc2 (fun ps => LamX.codeO_ne ps))
      have hc3 := codeO_upd (o := .lst [.ref f1, .ref f2, .ref f3, .ref f4, .ref f5, .ref f6]) (e1.at 1 rfl) (ex _ _ hc3 (fun ps => LamX.codeO_ne ps))
      have hc4 := codeO_upd (o := .lst [.ref f1, .ref f2, .ref f3, .ref f4, .ref f5, .ref f6]) (e1.at 1 rfl) (ex _ _ hc4 (fun ps => LamX.codeO_ne ps))
      have hc5 := codeO_upd (o := .lst [.ref f1, .ref f2, .ref f3, .ref f4, .ref f5, .ref f6]) (e1.at 1 rfl) (ex _ _ hc5 (fun ps => LamX.codeO_ne ps))
      have hc6 := codeO_upd (o := .lst [.ref f1, .ref f2, .ref f3, .ref f4, .ref f5, .ref f6]) (e1.at 1 rfl) hc6
      have h9 : Hw K [(gt, gw.map V.int), (bt, bw.map V.int)] [(tP, qLam)] [tB b, tL pa [.ref f1, .ref f2, .ref f3, .ref f4, .ref f5, .ref f6]] (upd G6 pa (.lst [.ref f1, .ref f2, .ref f3, .ref f4, .ref f5, .ref f6])) := e1.put (ys := [.ref f1, .ref f2, .ref f3, .ref f4, .ref f5, .ref f6]) 1 rfl
      dsimp only [List.append_eq, List.cons_append, List.nil_append]
      generalize upd G6 pa (.lst [.ref f1, .ref f2, .ref f3, .ref f4, .ref f5, .ref f6]) = G6' at h9 hc1 hc2 hc3 hc4 hc5 hc6 ⊢
      clear e1 ex tb h8
      refine ⟨h9.hs.tab, pa, _, rfl, h9.at 1 rfl, (by show 6 < sizeLine; decide), fun f7 c7 G7 ex tb _ hc7 => ?_⟩
      have e1 := h9.extX ex tb
      have hc1 := codeO_upd (o := .lst [.ref f1, .ref f2, .ref f3, .ref f4, .ref f5, .ref f6, .ref f7]) (e1.at 1 rfl) (ex _ _ hc1 (fun ps => LamX.codeO_ne ps))
      have hc2 := codeO_upd (o := .lst [.ref f1, .ref f2, .ref f3, .ref f4, .ref f5, .ref f6, .ref f7]) (e1.at 1 rfl) (ex _ _ hc2 (fun ps => LamX.codeO_ne ps))
      have hc3 := codeO_upd (o := .lst [.ref f1, .ref f2, .ref f3, .ref f4, .ref f5, .ref f6, .ref f7]) (e1.at 1 rfl) (ex _ _ hc3 (fun ps => LamX.codeO_ne ps))
      have hc4 := codeO_upd (o := .lst [.ref f1, .ref f2, .ref f3, .ref f4, .ref f5, .ref f6, .ref f7]) (e1.at 1 rfl) (ex _ _ hc4 (fun ps => LamX.codeO_ne ps))
      have hc5 := codeO_upd (o := .lst [.ref f1, .ref f2, .ref f3, .ref f4, .ref f5, .ref f6, .ref f7]) (e1.at 1 rfl) (ex _ _ hc5 (fun ps => LamX.codeO_ne ps))
      have hc6 := codeO_upd (o := .lst [.ref f1, .ref f2, .ref f3, .ref f4, .ref f5, .ref f6, .ref f7]) (e1.at 1 rfl) (ex _ _ hc6 (fun ps => LamX.codeO_ne ps))
      have hc7 := codeO_upd (o := .lst [.ref f1, .ref f2, .ref f3, .ref f4, .ref f5, .ref f6, .ref f7]) (e1.at 1 rfl) hc7
      have h10 : Hw K [(gt, gw.map V.int), (bt, bw.map V.int)] [(tP, qLam)] [tB b, tL pa [.ref f1, .ref f2, .ref f3, .ref f4, .ref f5, .ref f6, .ref f7]] (upd G7 pa (.lst [.ref f1, .ref f2, .ref f3, .ref f4, .ref f5, .ref f6, .ref f7])) := e1.put (ys := [.ref f1, .ref f2, .ref f3, .ref f4, .ref f5, .ref f6, .ref f7]) 1 rfl
      dsimp only [List.append_eq, List.cons_append, List.nil_append]
      generalize upd G7 pa (.lst [.ref f1, .ref f2, .ref f3, .ref f4, .ref f5, .ref f6, .ref f7]) = G7' at h10 hc1 hc2 hc3 hc4 hc5 hc6 hc7 ⊢
      clear e1 ex tb h9
      try dsimp only [List.set]
      obtain ⟨HC, eHC⟩ : ∃ HC : Hp → Prop, HC = fun H' => H' c1 = some (LamX.CodeO c1 qLam) ∧ H' c2 = some (LamX.CodeO c2 qLam) ∧ H' c3 = some (LamX.CodeO c3 qLam) ∧ H' c4 = some (LamX.CodeO c4 qLam) ∧ H' c5 = some (LamX.CodeO c5 qLam) ∧ H' c6 = some (LamX.CodeO c6 qLam) ∧ H' c7 = some (LamX.CodeO c7 qLam) := ⟨_, rfl⟩
      have hC : HC G7' := by rw [eHC]; exact ⟨hc1, hc2, hc3, hc4, hc5, hc6, hc7⟩
      clear hc1 hc2 hc3 hc4 hc5 hc6 hc7
      have hCs : ∀ {X Y : Hp}, Same X Y → HC X → HC Y := fun {X Y} s h => by
        rw [eHC] at h ⊢
        obtain ⟨z1, z2, z3, z4, z5, z6, z7⟩ := h
        exact ⟨s _ _ z1, s _ _ z2, s _ _ z3, s _ _ z4, s _ _ z5, s _ _ z6, s _ _ z7⟩
      refine ⟨_, rfl, pa, rfl, ⟨_, SqL.of (h10.at 1 rfl)⟩, for_list (K := K) (a := pa) (xs := [.ref f1, .ref f2, .ref f3, .ref f4, .ref f5, .ref f6, .ref f7]) (fun j σ H' => ∃ y6, σ = [some (.ref a), some (.ref b.1), some (.int (0 + (i : Int))), some (.ref bt), some (.ref gt), some (.ref pa), y6, y7, y8, y9, y10] ∧ Hw K [(gt, gw.map V.int), (bt, bw.map V.int)] [(tP, qLam)] [tB b, tL pa [.ref f1, .ref f2, .ref f3, .ref f4, .ref f5, .ref f6, .ref f7]] H' ∧ HC H') ⟨y6, rfl, h10, hC⟩ (fun j σ H' _ h => by
        obtain ⟨_, _, h, _⟩ := h
        exact SqL.of (h.at 1 rfl)) ?_ ?_⟩
      · clear h10 hC
        rintro j xv σ G1 hx ⟨y6, rfl, g1, hC⟩
        have stp : ∀ (G2 : Hp) (p p' : Addr), Same G1 G2 → G2 p = none → upd G2 p (.tup [.str "refused", .str "BadTaps"]) p' = none → Hw K [(gt, gw.map V.int), (bt, bw.map V.int)] [(tP, qLam)] [tB b, tL pa [.ref f1, .ref f2, .ref f3, .ref f4, .ref f5, .ref f6, .ref f7]] (upd (upd G2 p (.tup [.str "refused", .str "BadTaps"])) p' (.tup [.str "refused", .str "BadTaps"])) ∧ HC (upd (upd G2 p (.tup [.str "refused", .str "BadTaps"])) p' (.tup [.str "refused", .str "BadTaps"])) := fun G2 p p' s n n' => by
          have s2 := (s.trans (same_upd (o := .tup [.str "refused", .str "BadTaps"]) n)).trans (same_upd (o := .tup [.str "refused", .str "BadTaps"]) n')
          exact ⟨g1.same s2, hCs s2 hC⟩
        refine name_by ?_
        try dsimp only
        have hj : j < 7 := (List.getElem?_eq_some_iff.mp hx).1
        have hC2 := hC
        rw [eHC] at hC2
        obtain ⟨hc1, hc2, hc3, hc4, hc5, hc6, hc7⟩ := hC2
        have tb_ := g1.tup 1 rfl
        have tg_ := g1.tup 0 rfl
        obtain rfl | rfl | rfl | rfl | rfl | rfl | rfl : j = 0 ∨ j = 1 ∨ j = 2 ∨ j = 3 ∨ j = 4 ∨ j = 5 ∨ j = 6 := by omega
        · cases hx
          refine .inl ⟨rfl, hc1, ?_⟩
          refine ⟨_, rfl, _, rfl, rfl, rfl, fun x dx nx ndx nex => ⟨x, dx, bt, gt, e2', e3', false, false, false, false, bw, gw, [], [], rfl, upd_same, same_t (up_pair30 nx ndx) tb_, same_t (up_pair30 nx ndx) tg_, hE2 _, hE3 _, by omega, by omega, by decide, by decide, (fun ok => absurd ok (not4 (.inl nbad))), (fun _ G2 dd s2 nd2 ed2 => ⟨dd, _, rfl, ed2, .inr ⟨rfl, rfl, fun p13 np13 => ⟨(by show 2 ≤ sizeLine; decide), fun p14 np14 => ref_ne lay_Refused lay_BadTaps' np13 np14 ⟨_, rfl, iteF ?_⟩⟩⟩⟩)⟩⟩
          exact ⟨_, rfl, stp G2 p13 p14 (same_made nx ndx s2) np13 np14⟩
        · cases hx
          refine .inr (.inl ⟨rfl, hc2, ?_⟩)
          refine ⟨_, rfl, rfl, rfl, fun x dx nx ndx nex => ⟨x, dx, e0, bt, e2', e3', false, false, false, false, [], bw, [], [], rfl, upd_same, hE0 _, same_t (up_pair30 nx ndx) tb_, hE2 _, hE3 _, by decide, by omega, by decide, by decide, (fun ok => absurd ok (not4 (.inr (.inl nbad)))), (fun _ G2 dd s2 nd2 ed2 => ⟨dd, _, rfl, ed2, .inr ⟨rfl, rfl, fun p13 np13 => ⟨(by show 2 ≤ sizeLine; decide), fun p14 np14 => ref_ne lay_Refused lay_BadTaps' np13 np14 ⟨_, rfl, iteF ?_⟩⟩⟩⟩)⟩⟩
          exact ⟨_, rfl, stp G2 p13 p14 (same_made nx ndx s2) np13 np14⟩
        · cases hx
          refine .inr (.inr (.inl ⟨rfl, hc3, ?_⟩))
          refine ⟨_, rfl, _, rfl, rfl, rfl, fun x dx nx ndx nex => ⟨x, dx, e0, e1', bt, gt, false, false, false, false, [], [], bw, gw, rfl, upd_same, hE0 _, hE1 _, same_t (up_pair30 nx ndx) tb_, same_t (up_pair30 nx ndx) tg_, by decide, by decide, by omega, by omega, (fun ok => absurd ok (not4 (.inr (.inr (.inl nbad))))), (fun _ G2 dd s2 nd2 ed2 => ⟨dd, _, rfl, ed2, .inr ⟨rfl, rfl, fun p13 np13 => ⟨(by show 2 ≤ sizeLine; decide), fun p14 np14 => ref_ne lay_Refused lay_BadTaps' np13 np14 ⟨_, rfl, iteF ?_⟩⟩⟩⟩)⟩⟩
          exact ⟨_, rfl, stp G2 p13 p14 (same_made nx ndx s2) np13 np14⟩
        · cases hx
          refine .inr (.inr (.inr (.inl ⟨rfl, hc4, ?_⟩)))
          refine ⟨_, rfl, rfl, rfl, fun x dx nx ndx nex => ⟨x, dx, e0, e1', e2', bt, false, false, false, false, [], [], [], bw, rfl, upd_same, hE0 _, hE1 _, hE2 _, same_t (up_pair30 nx ndx) tb_, by decide, by decide, by decide, by omega, (fun ok => absurd ok (not4 (.inr (.inr (.inr nbad))))), (fun _ G2 dd s2 nd2 ed2 => ⟨dd, _, rfl, ed2, .inr ⟨rfl, rfl, fun p13 np13 => ⟨(by show 2 ≤ sizeLine; decide), fun p14 np14 => ref_ne lay_Refused lay_BadTaps' np13 np14 ⟨_, rfl, iteF ?_⟩⟩⟩⟩)⟩⟩
          exact ⟨_, rfl, stp G2 p13 p14 (same_made nx ndx s2) np13 np14⟩
        · cases hx
          refine .inr (.inr (.inr (.inr (.inl ⟨rfl, hc5, ?_⟩))))
          refine ⟨_, rfl, fun x dx nx ndx nex => ⟨x, dx, bt, false, bw, rfl, upd_same, same_t (up_pair30 nx ndx) tb_, by omega, (fun ok => absurd ok nbad), (fun _ G2 dd s2 nd2 ed2 => ⟨dd, _, rfl, ed2, .inr ⟨rfl, rfl, fun p13 np13 => ⟨(by show 2 ≤ sizeLine; decide), fun p14 np14 => ref_ne lay_Refused lay_BadTaps' np13 np14 ⟨_, rfl, iteF ?_⟩⟩⟩⟩)⟩⟩
          exact ⟨_, rfl, stp G2 p13 p14 (same_made nx ndx s2) np13 np14⟩
        · cases hx
          refine .inr (.inr (.inr (.inr (.inr (.inl ⟨rfl, hc6, ?_⟩)))))
          refine ⟨_, rfl, rfl, rfl, fun x dx nx ndx nex => ⟨x, dx, bt, false, bw, 1, 0, rfl, upd_same, same_t (up_pair30 nx ndx) tb_, by omega, (fun _ ok => absurd ok nbad), (fun no => absurd okr no), (fun _ _ G2 dd s2 nd2 ed2 => ⟨dd, _, rfl, ed2, .inr ⟨rfl, rfl, fun p13 np13 => ⟨(by show 2 ≤ sizeLine; decide), fun p14 np14 => ref_ne lay_Refused lay_BadTaps' np13 np14 ⟨_, rfl, iteF ?_⟩⟩⟩⟩), (fun _ ok => absurd ok nbad)⟩⟩
          exact ⟨_, rfl, stp G2 p13 p14 (same_madeM nx ndx s2) np13 np14⟩
        · cases hx
          refine .inr (.inr (.inr (.inr (.inr (.inr (⟨rfl, hc7, ?_⟩))))))
          refine ⟨_, rfl, rfl, rfl, fun x dx nx ndx nex => ⟨x, dx, bt, false, bw, 1, 0, rfl, upd_same, same_t (up_pair30 nx ndx) tb_, by omega, (fun _ ok => absurd ok nbad), (fun no => absurd okr no), (fun _ _ G2 dd s2 nd2 ed2 => ⟨dd, _, rfl, ed2, .inr ⟨rfl, rfl, fun p13 np13 => ⟨(by show 2 ≤ sizeLine; decide), fun p14 np14 => ref_ne lay_Refused lay_BadTaps' np13 np14 ⟨_, rfl, iteF ?_⟩⟩⟩⟩), (fun _ ok => absurd ok nbad)⟩⟩
          exact ⟨_, rfl, stp G2 p13 p14 (same_madeM nx ndx s2) np13 np14⟩
      · clear h10 hC
        rintro σ G1 ⟨y6, rfl, g1, _⟩
        try dsimp only
        have g2 := (g1.sel [0] (by decide))
        clear g1
        -- a shaper
        refine ⟨_, rfl, fun x dx nx ndx nex => ⟨x, dx, gt, false, gw, rfl, upd_same, same_t (up_pair30 nx ndx) (g2.tup 0 rfl), by omega, (fun _ G2 st sl mv nsl hsh hst => ⟨rfl, ?_⟩), (fun no => absurd okg no)⟩⟩
        have g3 := (g2.upN (sh_made nx ndx mv nsl hsh)).know hst
        clear g2 mv nsl hsh hst nx ndx nex
        have okt : (∀ z ∈ trimS gw, small z) ∧ (trimS gw).length ≤ 4 := ⟨okg.2, okg.1⟩
        refine name_by ?_
        try dsimp only
        have hs3 : Shp CS x sl st z4 G2 := g3.get 0 rfl
        obtain ⟨⟨xdx, xi⟩, _⟩ := id hs3
        have g3 := g3.sel [1, 0] (by decide)
        refine ⟨_, rfl, x, xdx, _, rfl, xi, rfl, _, rfl, b, 256, rfl, g3.bag, by decide, by decide, fun G4 d4 mv4 hB4 d40 d41 => ⟨_, _, rfl, rfl, ?_⟩⟩
        have g4 := g3.mv mv4 hB4
        clear g3 mv4 hB4 hs3 xi xdx
        refine ⟨x, sl, st, z4, trimS gw, d4 - 128, rfl, g4.get 1 rfl, g4.tup 0 rfl, okt.1, by have := okt.2; omega, (fun _ G5 sl5 mv5 nsl5 hs5 => ?_), (fun bad => absurd (fold_in (by omega) (by omega)) bad)⟩
        have g5 := (g4.up 1 rfl (sh_say (g4.get 1 rfl) mv5 nsl5 hs5)).sel [1, 0] (by decide)
        clear g4 mv5 nsl5 hs5
        obtain ⟨ms, ems⟩ : ∃ ms : List Int, ms = toneOf (trimS gw) z4 (d4 - 128) :: z4.take 3 := ⟨_, rfl⟩
        rw [← ems] at g5
        try dsimp only
        have hs5 : Shp CS x sl5 st ms G5 := g5.get 1 rfl
        obtain ⟨⟨xdx, xi⟩, _⟩ := id hs5
        refine ⟨_, rfl, x, xdx, _, rfl, xi, rfl, x, sl5, st, ms, rfl, hs5, fun kp nkp => ?_⟩
        have g6 := g5.newHU (o := .lst (ms.map V.int)) nkp
        generalize upd G5 kp _ = G6 at g6 ⊢
        clear g5 nkp hs5 xi xdx
        refine name_by ?_
        try dsimp only
        have g6 := g6.sel [1, 2, 0] (by decide)
        refine ⟨_, rfl, 129, rfl, _, rfl, 10, 12, rfl, rfl, ⟨by decide, by decide, by decide⟩, b, 10 ^ 12, rfl, g6.bag, by decide, by decide, fun G7 d7 mv7 hB7 d70 d71 => ⟨_, _, rfl, rfl, ?_⟩⟩
        have g7 := g6.mv mv7 hB7
        clear g6 mv7 hB7
        refine ⟨129, rfl, _, rfl, 10, 12, rfl, rfl, ⟨by decide, by decide, by decide⟩, b, 10 ^ 12, rfl, g7.bag, by decide, by decide, fun G8 d8 mv8 hB8 d80 d81 => ⟨_, _, rfl, rfl, (by show 4 ≤ sizeLine; decide), fun lp nlp => ?_⟩⟩
        have g8 := (g7.mv mv8 hB8).newHU (o := .lst [.int 128, .int (-129), .int (128 + d7), .int (-129 - d8)]) nlp
        generalize upd G8 lp _ = G9 at g8 ⊢
        clear g7 mv8 hB8 nlp
        have g8 := g8.sel [1, 0, 2, 3] (by decide)
        refine ⟨b, lp, _, rfl, g8.bag, g8.hs.ne 1 0 rfl rfl (.head _) (.head _) (by decide), g8.at 1 rfl, (by show 0 < 4; decide), (by show 4 < 1000; decide), fun G10 v mv10 hB10 hv => ?_⟩
        obtain ⟨od, rfl, ob⟩ : ∃ z : Int, v = .int z ∧ (z < -128 ∨ 128 ≤ z) := by
          simp only [List.mem_cons, List.not_mem_nil, or_false] at hv
          rcases hv with rfl | rfl | rfl | rfl
          · exact ⟨128, rfl, .inr (by decide)⟩
          · exact ⟨-129, rfl, .inl (by decide)⟩
          · exact ⟨_, rfl, .inr (by omega)⟩
          · exact ⟨_, rfl, .inl (by omega)⟩
        have g10 := (g8.mv mv10 hB10).sel [0, 2, 3] (by decide)
        clear g8 mv10 hB10 hv
        refine name_by ?_
        try dsimp only
        try dsimp only [List.set]
        refine ⟨g10.hs.tab, fun G11 ex11 tb11 => ?_⟩
        have g11 := g10.extX ex11 tb11
        clear g10 ex11 tb11
        have hs11 : Shp CS x sl5 st ms G11 := g11.get 1 rfl
        obtain ⟨⟨xdx, xi⟩, _⟩ := id hs11
        refine ⟨_, rfl, x, xdx, _, rfl, xi, rfl, _, rfl, x, sl5, st, ms, trimS gw, od, rfl, hs11, g11.tup 0 rfl, okt.1, by have := okt.2; omega, (fun ok => absurd ok (fold_out ob)), (fun _ G12 dd s12 nd12 ed12 => ⟨dd, _, rfl, ed12, .inl ⟨rfl, rfl, fun p13 np13 => ⟨(by show 2 ≤ sizeLine; decide), fun p14 np14 => ref_ne lay_Refused lay_BadCount' np13 np14 ⟨_, rfl, iteF ?_⟩⟩⟩⟩)⟩
        have g12 := g11.same ((s12.trans (same_upd (o := .tup [.str "refused", .str "BadCount"]) np13)).trans (same_upd (o := .tup [.str "refused", .str "BadCount"]) np14))
        generalize upd (upd G12 p13 _) p14 _ = G13 at g12 ⊢
        clear g11 s12 nd12 ed12 np13 np14 hs11 xi xdx
        have hs12 : Shp CS x sl5 st ms G13 := g12.get 1 rfl
        obtain ⟨⟨xdx, xi⟩, _⟩ := id hs12
        refine ⟨_, rfl, x, xdx, _, rfl, xi, rfl, x, sl5, st, ms, rfl, hs12, fun kq nkq => ⟨_, rfl, ?_⟩⟩
        have g13 := g12.newHU (o := .lst (ms.map V.int)) nkq
        generalize upd G13 kq _ = G14 at g13 ⊢
        clear g12 nkq hs12 xi xdx
        refine neD_i2 (ns := ms) (SqL.of (g13.at 0 rfl)) (SqL.of (g13.at 3 rfl)) ⟨_, rfl, iteF ?_⟩
        have g14 := g13.sel [1] (by decide)
        clear g13
        try unfold tNext
        try dsimp only
        -- the longer shares
        refine ⟨_, rfl, gt, _, rfl, .inr (g14.tup 1 rfl), fun q1 nq1 => ⟨(by show 1 ≤ sizeLine; decide), fun q2 nq2 => ?_⟩⟩
        have g15 := ((g14.newHU (o := .lst (gw.map V.int)) nq1).newHU (o := .lst [.int 0]) nq2).sel [2, 0, 1] (by decide)
        generalize upd (upd G14 q1 _) q2 _ = G15 at g15 ⊢
        clear g14 nq1 nq2
        refine ⟨_, rfl, b, 9, rfl, g15.bag, by decide, by decide, fun G16 dz mv16 hB16 dz0 dz1 => ⟨q2, _, _, rfl, rfl, (g15.mv mv16 hB16).at 1 rfl, by omega, by omega, ?_, fun q3 nq3 => ?_⟩⟩
        · show 1 * dz.toNat ≤ sizeLine
          have : dz.toNat ≤ 9 := by omega
          exact Nat.le_trans (by omega : 1 * dz.toNat ≤ 9) (by show 9 ≤ sizeLine; decide)
        rw [zeros_flat] at *
        have g16 := (g15.mv mv16 hB16).newHU (o := .lst ((List.replicate dz.toNat (0 : Int)).map V.int)) nq3
        generalize upd G16 q3 _ = G17 at g16 ⊢
        clear g15 mv16 hB16 nq3
        refine ⟨q1, q3, _, _, rfl, rfl, g16.at 3 rfl, g16.at 0 rfl, ?_, fun q4 nq4 => ?_⟩
        · rw [List.length_map, List.length_map, List.length_replicate]
          exact Nat.le_of_lt (sz4l (by omega))
        rw [← List.map_append]
        have g17 := g16.newHU (o := .lst ((gw ++ List.replicate dz.toNat (0 : Int)).map V.int)) nq4
        generalize upd G17 q4 _ = G18 at g17 ⊢
        clear g16 nq4
        obtain ⟨us, eus⟩ : ∃ us, us = gw ++ List.replicate dz.toNat (0 : Int) := ⟨_, rfl⟩
        have etr : trimS us = trimS gw := by rw [eus, trim_zeros]
        have lus : us.length ≤ 20 := by rw [eus, List.length_append, List.length_replicate]; omega
        have oku : okSh us := by unfold okSh; rw [etr]; exact okg
        rw [← eus] at g17
        refine ⟨q4, _, rfl, .inl ⟨SqL.of (g17.at 0 rfl), fun lt nlt => ?_⟩⟩
        have g18 : Hw K [(lt, us.map V.int), (gt, gw.map V.int)] [(tP, qLam)] [tB b] _ := ((g17.newT (xs := us.map V.int) nlt).sel [2] (by decide)).selT (fun z hz => by
          rcases List.mem_cons.mp hz with rfl | hz
          · exact .head _
          · rw [List.mem_singleton.mp hz]
            exact .tail _ (.tail _ (.head _)))
        generalize upd G18 lt _ = G19 at g18 ⊢
        clear g17 nlt
        refine name_by ?_
        try dsimp only
        try dsimp only [List.set]
        -- wires alike
        refine ⟨_, rfl, rfl, rfl, fun x1 d1 nx ndx nex => ⟨x1, d1, e0, e1', gt, e3', false, false, false, false, [], [], gw, [], rfl, upd_same, hE0 _, hE1 _, same_t (up_pair30 nx ndx) (g18.tup 1 rfl), hE3 _, by decide, by decide, by omega, by decide, (fun _ W1 wf1 wp1 wq1 mv1 np1 nq1 hw1 hf1 => ⟨rfl, ?_⟩), (fun no => absurd ⟨okSh_nil, okSh_nil, okg, okSh_nil⟩ no)⟩⟩
        have g19 := g18.upN (wr_made nx ndx mv1 np1 nq1 hw1)
        clear g18 nx ndx nex mv1 np1 nq1 hw1
        refine ⟨_, rfl, rfl, rfl, fun x2 d2 nx ndx nex => ⟨x2, d2, e0, e1', lt, e3', false, false, false, false, [], [], us, [], rfl, upd_same, hE0 _, hE1 _, same_t (up_pair30 nx ndx) (g19.tup 0 rfl), hE3 _, by decide, by decide, by omega, by decide, (fun _ W2 wf2 wp2 wq2 mv2 np2 nq2 hw2 hf2 => ⟨rfl, ?_⟩), (fun no => absurd ⟨okSh_nil, okSh_nil, oku, okSh_nil⟩ no)⟩⟩
        have hf1 := hf1.same (made_same nx ndx mv2)
        have g20 := g19.upN (wr_made nx ndx mv2 np2 nq2 hw2)
        clear g19 nx ndx nex mv2 np2 nq2 hw2
        rw [etr] at hf2
        have w1 : Wr CW x1 wf1 wp1 wq1 z4 z4 W2 := g20.get 1 rfl
        have w2 : Wr CW x2 wf2 wp2 wq2 z4 z4 W2 := g20.get 0 rfl
        obtain ⟨⟨dw1, iw1⟩, _⟩ := id w1
        obtain ⟨⟨dw2, iw2⟩, _⟩ := id w2
        refine ⟨x1, dw1, _, x2, dw2, _, rfl, rfl, iw1, iw2, .inl ⟨x1, wf1, wp1, wq1, x2, wf2, wp2, wq2, z4, z4, z4, z4, _, _, rfl, w1, w2, hf1, hf2, ⟨_, rfl, ?_⟩⟩⟩
        rw [wSame_refl]
        refine ⟨_, rfl, iteF ?_⟩
        have g21 := g20.sel [2] (by decide)
        clear g20 w1 w2 iw1 iw2 hf1 hf2
        refine ⟨_, rfl, rfl, rfl, fun x3 d3 nx ndx nex => ⟨x3, d3, e0, e1', e2', lt, false, false, false, false, [], [], [], us, rfl, upd_same, hE0 _, hE1 _, hE2 _, same_t (up_pair30 nx ndx) (g21.tup 0 rfl), by decide, by decide, by decide, by omega, (fun _ W3 wf3 wp3 wq3 mv3 np3 nq3 hw3 hf3 => ⟨rfl, ?_⟩), (fun no => absurd ⟨okSh_nil, okSh_nil, okSh_nil, oku⟩ no)⟩⟩
        have g22 := g21.upN (wr_made nx ndx mv3 np3 nq3 hw3)
        clear g21 nx ndx nex mv3 np3 nq3
        rw [etr] at hf3
        obtain ⟨⟨dw3, iw3⟩, _⟩ := id hw3
        obtain ⟨t0, t1, t2, t3, e4, z0, z1, z2, z3⟩ := hf3
        refine ⟨x3, dw3, _, rfl, iw3, rfl, x3, wf3, wp3, wq3, z4, z4, rfl, hw3, wf3, _, _, _, rfl, rfl, e4, rfl, ?_⟩
        refine ⟨_, rfl, gt, false, gw, rfl, g22.tup 1 rfl, by omega, fun W4' tt s4 nt4 et4 => ?_⟩
        refine neD_tI (ns := trimS gw) (same_t s4 z3) (SqT.of et4) ⟨_, rfl, iteF ?_⟩
        have g23 := (g22.same s4).sel [1] (by decide)
        clear g22 s4 nt4 et4 e4 z0 z1 z2 z3 iw3 hw3
        try unfold tNext
        try dsimp only
        -- shapers alike
        refine ⟨_, rfl, fun x4 d4' nx ndx nex => ⟨x4, d4', lt, false, us, rfl, upd_same, same_t (up_pair30 nx ndx) (g23.tup 0 rfl), by omega, (fun _ Y1 st1 sl1 mv1 nsl1 hsh1 hst1 => ⟨rfl, ?_⟩), (fun no => absurd oku no)⟩⟩
        rw [etr] at hst1
        have g24 := (g23.upN (sh_made nx ndx mv1 nsl1 hsh1)).know hst1
        obtain ⟨⟨xd1, xi1⟩, _⟩ := id hsh1
        clear g23 nx ndx nex mv1 nsl1 hst1
        refine ⟨x4, xd1, _, rfl, xi1, rfl, x4, sl1, st1, z4, trimS gw, 3, rfl, hsh1, g24.tup 0 rfl, okt.1, by have := okt.2; omega, (fun _ Y2 sl2 mv2 nsl2 hs2 => ?_), (fun bad => absurd (fold_in (by decide) (by decide)) bad)⟩
        have g25 := ((g24.up 0 rfl (sh_say (g24.get 0 rfl) mv2 nsl2 hs2)).sel [1] (by decide)).selT (L' := [(lt, us.map V.int), (gt, gw.map V.int)]) (fun z hz => .tail _ hz)
        clear g24 mv2 nsl2 hs2 hsh1 xi1 xd1
        refine ⟨_, rfl, fun x5 d5 nx ndx nex => ⟨x5, d5, gt, false, gw, rfl, upd_same, same_t (up_pair30 nx ndx) (g25.tup 1 rfl), by omega, (fun _ Y3 st3 sl3 mv3 nsl3 hsh3 hst3 => ⟨rfl, ?_⟩), (fun no => absurd okg no)⟩⟩
        have g26 := (g25.upN (sh_made nx ndx mv3 nsl3 hsh3)).know hst3
        obtain ⟨⟨xd3, xi3⟩, _⟩ := id hsh3
        clear g25 nx ndx nex mv3 nsl3 hst3
        refine ⟨x5, xd3, _, rfl, xi3, rfl, x5, sl3, st3, z4, trimS gw, 3, rfl, hsh3, g26.tup 0 rfl, okt.1, by have := okt.2; omega, (fun _ Y4 sl4 mv4 nsl4 hs4 => ?_), (fun bad => absurd (fold_in (by decide) (by decide)) bad)⟩
        have g27 := ((g26.up 0 rfl (sh_say (g26.get 0 rfl) mv4 nsl4 hs4)).sel [1] (by decide)).selT (L' := [(lt, us.map V.int), (gt, gw.map V.int)]) (fun z hz => .tail _ hz)
        clear g26 mv4 nsl4 hs4 hsh3 xi3 xd3
        refine rNe_eq rfl rfl ⟨_, rfl, iteF ?_⟩
        have hbag : Bag b Y4 := g27.bag
        have g28 := Hw.grp (As := [tB b]) g27
        refine ⟨_, rfl, _, rfl, _, rfl, b, gt, lt, gw, us, rfl, hbag, g27.tup 1 rfl, g27.tup 0 rfl, okg, etr, by omega, by omega, fun Y5 u5 => ⟨_, rfl, ?_⟩⟩
        have g29 := (g28.up 0 rfl u5).selT (L' := []) (fun z hz => nomatch hz)
        refine iteF ?_
        try unfold tNext
        try dsimp only
        exact ⟨_, _, _, _, _, _, _, _, _, rfl, g29⟩
    · rintro σ H1 ⟨y2, y3, y4, y5, y6, y7, y8, y9, y10, rfl, h1⟩
      refine fun x1 d1 nx ndx nex => ⟨x1, d1, e0, e1', e2', e3', false, false, false, false, [], [], [], [], rfl, upd_same, hE0 _, hE1 _, hE2 _, hE3 _, by decide, by decide, by decide, by decide, (fun _ W1 wf1 wp1 wq1 mv1 np1 nq1 hw1 hf1 => ⟨rfl, ?_⟩), (fun no => absurd ⟨okSh_nil, okSh_nil, okSh_nil, okSh_nil⟩ no)⟩
      have g2 := h1.upN (wr_made nx ndx mv1 np1 nq1 hw1)
      have hf1 : FourAt K wf1 ⟨[], [], [], []⟩ W1 := hf1
      clear nx ndx nex mv1 np1 nq1 hw1 h1
      refine ⟨(by show 2 ≤ sizeLine; decide), fun ta nta => ?_⟩
      have g3 := g2.newT (xs := [.int 0, .int 0]) nta
      have hf1 := hf1.same (same_upd (o := .tup [.int 0, .int 0]) nta)
      refine ⟨(by show 1 ≤ sizeLine; decide), fun tb ntb => ?_⟩
      have g4 := g3.newT (xs := [.int 0]) ntb
      have hf1 := hf1.same (same_upd (o := .tup [.int 0]) ntb)
      generalize upd (upd W1 ta _) tb _ = W1' at g4 hf1 ⊢
      clear g2 g3 nta ntb
      refine ⟨rfl, rfl, fun x2 d2 nx ndx nex => ⟨x2, d2, ta, tb, e2', e3', false, false, false, false, [0, 0], [0], [], [], rfl, upd_same, same_t (up_pair30 nx ndx) (g4.tup 1 rfl), same_t (up_pair30 nx ndx) (g4.tup 0 rfl), hE2 _, hE3 _, by decide, by decide, by decide, by decide, (fun _ W2 wf2 wp2 wq2 mv2 np2 nq2 hw2 hf2 => ⟨rfl, ?_⟩), (fun no => absurd ⟨okSh00, okSh0, okSh_nil, okSh_nil⟩ no)⟩⟩
      have hf1 := hf1.same (made_same nx ndx mv2)
      have g5 := g4.upN (wr_made nx ndx mv2 np2 nq2 hw2)
      clear g4 nx ndx nex mv2 np2 nq2 hw2
      rw [trim00, trim0] at hf2
      have hf2 : FourAt K wf2 ⟨[], [], [], []⟩ W2 := hf2
      have w1 : Wr CW x1 wf1 wp1 wq1 z4 z4 W2 := g5.get 1 rfl
      have w2 : Wr CW x2 wf2 wp2 wq2 z4 z4 W2 := g5.get 0 rfl
      obtain ⟨⟨dw1, iw1⟩, _⟩ := id w1
      obtain ⟨⟨dw2, iw2⟩, _⟩ := id w2
      refine ⟨x1, dw1, _, x2, dw2, _, rfl, rfl, iw1, iw2, .inl ⟨x1, wf1, wp1, wq1, x2, wf2, wp2, wq2, z4, z4, z4, z4, ⟨[], [], [], []⟩, ⟨[], [], [], []⟩, rfl, w1, w2, hf1, hf2, ⟨_, rfl, ?_⟩⟩⟩
      rw [wSame_refl]
      refine iteT ?_
      have g6 := g5.sel [2] (by decide)
      clear g5 w1 w2 iw1 iw2 hf1 hf2
      refine fun x3 d3 nx ndx nex => ⟨x3, d3, e0, e1', e2', e3', false, false, false, false, [], [], [], [], rfl, upd_same, hE0 _, hE1 _, hE2 _, hE3 _, by decide, by decide, by decide, by decide, (fun _ W3 wf3 wp3 wq3 mv3 np3 nq3 hw3 hf3 => ⟨rfl, ?_⟩), (fun no => absurd ⟨okSh_nil, okSh_nil, okSh_nil, okSh_nil⟩ no)⟩
      have g7 := g6.upN (wr_made nx ndx mv3 np3 nq3 hw3)
      clear g6 nx ndx nex mv3 np3 nq3 hf3
      obtain ⟨⟨dw3, iw3⟩, _⟩ := id hw3
      refine ⟨x3, dw3, _, _, rfl, iw3, .inr (.inr ⟨_, rfl, rfl⟩), ki, .inr ⟨x3, wf3, wp3, wq3, z4, z4, _, _, rfl, hw3, .base (.int _), ti, ⟨_, rfl, ⟨_, rfl, iteT ?_⟩⟩⟩⟩
      have g8 := g7.sel [1] (by decide)
      clear g7 hw3 iw3
      refine fun x4 d4 nx ndx nex => ⟨x4, d4, e0, e1', e2', e3', false, false, false, false, [], [], [], [], rfl, upd_same, hE0 _, hE1 _, hE2 _, hE3 _, by decide, by decide, by decide, by decide, (fun _ W4_ wf4 wp4 wq4 mv4 np4 nq4 hw4 hf4 => ⟨rfl, ?_⟩), (fun no => absurd ⟨okSh_nil, okSh_nil, okSh_nil, okSh_nil⟩ no)⟩
      obtain ⟨⟨dw4, iw4⟩, _⟩ := id hw4
      exact ⟨x4, dw4, _, _, rfl, iw4, .inr (.inl ⟨_, rfl, rfl⟩), ks, .inr ⟨x4, wf4, wp4, wq4, z4, z4, _, _, rfl, hw4, .base (.str _), ts, ⟨_, rfl, q _⟩⟩⟩
end
/-! ### the end -/
theorem all_mk {l : PySem.W.OpenLaw} {w : World} {K : PySem.W.Frag} {h : Heap} {mg : Str → Option Value} {fa tP f0 f1 f2 f3 f4 f5 f6 f7 f8 f9 f10 f11 f12 f13 f14 f15 f16 f17 f18 f19 f20 f21 f22 f23 f24 f25 f26 f27 f28 f29 f30 f31 f32 f33 f34 f35 f36 f37 f38 f39 f40 f41 f42 f43 f44 f45 f46 f47 f48 f49 f50 f51 f52 f53 f54 f55 f56 f57 f58 f59 f60 f61 f62 f63 f64 : Addr} (X : K.In h) (G : h.Ns mainGlobals mg) (hfa : mg "law" = some (.ref fa)) (own : h.get? tP = some { cls := .none, data := .fields #[] })
    {cReader : Addr}
    {cScrambler : Addr}
    {cDescrambler : Addr}
    {cShaper : Addr}
    {cMouth : Addr}
    {cEar : Addr}
    {cWire : Addr}
    {oc0 : Value} {od0 an0 : Option Addr} {sl0 : Array (Option Value)} {kV0 dc0 pm0 cd0 ct0 : Value}
    {oc1 : Value} {od1 an1 : Option Addr} {sl1 : Array (Option Value)} {kV1 dc1 pm1 cd1 ct1 : Value}
    {oc2 : Value} {od2 an2 : Option Addr} {sl2 : Array (Option Value)} {kV2 dc2 pm2 cd2 ct2 : Value}
    {oc3 : Value} {od3 an3 : Option Addr} {sl3 : Array (Option Value)} {kV3 dc3 pm3 cd3 ct3 : Value}
    {oc4 : Value} {od4 an4 : Option Addr} {sl4 : Array (Option Value)} {kV4 dc4 pm4 cd4 ct4 : Value}
    {oc5 : Value} {od5 an5 : Option Addr} {sl5 : Array (Option Value)} {kV5 dc5 pm5 cd5 ct5 : Value}
    {oc6 : Value} {od6 an6 : Option Addr} {sl6 : Array (Option Value)} {kV6 dc6 pm6 cd6 ct6 : Value}
    {oc7 : Value} {od7 an7 : Option Addr} {sl7 : Array (Option Value)} {kV7 dc7 pm7 cd7 ct7 : Value}
    {oc8 : Value} {od8 an8 : Option Addr} {sl8 : Array (Option Value)} {kV8 dc8 pm8 cd8 ct8 : Value}
    {oc9 : Value} {od9 an9 : Option Addr} {sl9 : Array (Option Value)} {kV9 dc9 pm9 cd9 ct9 : Value}
    {oc10 : Value} {od10 an10 : Option Addr} {sl10 : Array (Option Value)} {kV10 dc10 pm10 cd10 ct10 : Value}
    {oc11 : Value} {od11 an11 : Option Addr} {sl11 : Array (Option Value)} {kV11 dc11 pm11 cd11 ct11 : Value}
    {oc12 : Value} {od12 an12 : Option Addr} {sl12 : Array (Option Value)} {kV12 dc12 pm12 cd12 ct12 : Value}
    {oc13 : Value} {od13 an13 : Option Addr} {sl13 : Array (Option Value)} {kV13 dc13 pm13 cd13 ct13 : Value}
    {oc14 : Value} {od14 an14 : Option Addr} {sl14 : Array (Option Value)} {kV14 dc14 pm14 cd14 ct14 : Value}
    {oc15 : Value} {od15 an15 : Option Addr} {sl15 : Array (Option Value)} {kV15 dc15 pm15 cd15 ct15 : Value}
    {oc16 : Value} {od16 an16 : Option Addr} {sl16 : Array (Option Value)} {kV16 dc16 pm16 cd16 ct16 : Value}
    {oc17 : Value} {od17 an17 : Option Addr} {sl17 : Array (Option Value)} {kV17 dc17 pm17 cd17 ct17 : Value}
    {oc18 : Value} {od18 an18 : Option Addr} {sl18 : Array (Option Value)} { dc18 pm18 cd18 ct18 : Value}
    {D18 : Addr} {tD18 : Tok}
    {oc19 : Value} {od19 an19 : Option Addr} {sl19 : Array (Option Value)} {kV19 dc19 pm19 cd19 ct19 : Value}
    {oc20 : Value} {od20 an20 : Option Addr} {sl20 : Array (Option Value)} {kV20 dc20 pm20 cd20 ct20 : Value}
    {oc21 : Value} {od21 an21 : Option Addr} {sl21 : Array (Option Value)} { dc21 pm21 cd21 ct21 : Value}
    {D21 : Addr} {tD21 : Tok}
    {oc22 : Value} {od22 an22 : Option Addr} {sl22 : Array (Option Value)} {kV22 dc22 pm22 cd22 ct22 : Value}
    {oc23 : Value} {od23 an23 : Option Addr} {sl23 : Array (Option Value)} {kV23 dc23 pm23 cd23 ct23 : Value}
    {oc24 : Value} {od24 an24 : Option Addr} {sl24 : Array (Option Value)} {kV24 dc24 pm24 cd24 ct24 : Value}
    {oc25 : Value} {od25 an25 : Option Addr} {sl25 : Array (Option Value)} {kV25 dc25 pm25 cd25 ct25 : Value}
    {oc26 : Value} {od26 an26 : Option Addr} {sl26 : Array (Option Value)} {kV26 dc26 pm26 cd26 ct26 : Value}
    {oc27 : Value} {od27 an27 : Option Addr} {sl27 : Array (Option Value)} { dc27 pm27 cd27 ct27 : Value}
    {D27 : Addr} {tD27 : Tok}
    {oc28 : Value} {od28 an28 : Option Addr} {sl28 : Array (Option Value)} {kV28 dc28 pm28 cd28 ct28 : Value}
    {oc29 : Value} {od29 an29 : Option Addr} {sl29 : Array (Option Value)} { dc29 pm29 cd29 ct29 : Value}
    {D29 : Addr} {tD29 : Tok}
    {oc30 : Value} {od30 an30 : Option Addr} {sl30 : Array (Option Value)} {kV30 dc30 pm30 cd30 ct30 : Value}
    {oc31 : Value} {od31 an31 : Option Addr} {sl31 : Array (Option Value)} {kV31 dc31 pm31 cd31 ct31 : Value}
    {oc32 : Value} {od32 an32 : Option Addr} {sl32 : Array (Option Value)} { dc32 pm32 cd32 ct32 : Value}
    {D32 : Addr} {tD32 : Tok}
    {oc33 : Value} {od33 an33 : Option Addr} {sl33 : Array (Option Value)} {kV33 dc33 pm33 cd33 ct33 : Value}
    {oc34 : Value} {od34 an34 : Option Addr} {sl34 : Array (Option Value)} {kV34 dc34 pm34 cd34 ct34 : Value}
    {oc35 : Value} {od35 an35 : Option Addr} {sl35 : Array (Option Value)} {kV35 dc35 pm35 cd35 ct35 : Value}
    {oc36 : Value} {od36 an36 : Option Addr} {sl36 : Array (Option Value)} {kV36 dc36 pm36 cd36 ct36 : Value}
    {oc37 : Value} {od37 an37 : Option Addr} {sl37 : Array (Option Value)} {kV37 dc37 pm37 cd37 ct37 : Value}
    {oc38 : Value} {od38 an38 : Option Addr} {sl38 : Array (Option Value)} {kV38 dc38 pm38 cd38 ct38 : Value}
    {oc39 : Value} {od39 an39 : Option Addr} {sl39 : Array (Option Value)} {kV39 dc39 pm39 cd39 ct39 : Value}
    {oc40 : Value} {od40 an40 : Option Addr} {sl40 : Array (Option Value)} {kV40 dc40 pm40 cd40 ct40 : Value}
    {dT40 : Addr} {oT40 : Option Addr} {mT40 : Nat} {slT40 : Array (Option Value)}
    {e40_0 : Addr} {o_e40_0 : Option Addr} {m_e40_0 : Nat} {sl_e40_0 : Array (Option Value)}
    {oc41 : Value} {od41 an41 : Option Addr} {sl41 : Array (Option Value)} {kV41 dc41 pm41 cd41 ct41 : Value}
    {oc42 : Value} {od42 an42 : Option Addr} {sl42 : Array (Option Value)} {kV42 dc42 pm42 cd42 ct42 : Value}
    {oc43 : Value} {od43 an43 : Option Addr} {sl43 : Array (Option Value)} {kV43 dc43 pm43 cd43 ct43 : Value}
    {oc44 : Value} {od44 an44 : Option Addr} {sl44 : Array (Option Value)} { dc44 pm44 cd44 ct44 : Value}
    {dT44 : Addr} {oT44 : Option Addr} {mT44 : Nat} {slT44 : Array (Option Value)}
    {e44_0 : Addr} {o_e44_0 : Option Addr} {m_e44_0 : Nat} {sl_e44_0 : Array (Option Value)}
    {D44 : Addr}
    {t_e44_10 : Tok}
    {t_e44_11 : Tok}
    {oc45 : Value} {od45 an45 : Option Addr} {sl45 : Array (Option Value)} {kV45 dc45 pm45 cd45 ct45 : Value}
    {oc46 : Value} {od46 an46 : Option Addr} {sl46 : Array (Option Value)} {kV46 dc46 pm46 cd46 ct46 : Value}
    {oc47 : Value} {od47 an47 : Option Addr} {sl47 : Array (Option Value)} { dc47 pm47 cd47 ct47 : Value}
    {dT47 : Addr} {oT47 : Option Addr} {mT47 : Nat} {slT47 : Array (Option Value)}
    {e47_0 : Addr} {o_e47_0 : Option Addr} {m_e47_0 : Nat} {sl_e47_0 : Array (Option Value)}
    {D47 : Addr}
    {t_e47_10 : Tok}
    {t_e47_11 : Tok}
    {oc48 : Value} {od48 an48 : Option Addr} {sl48 : Array (Option Value)} {kV48 dc48 pm48 cd48 ct48 : Value}
    {oc49 : Value} {od49 an49 : Option Addr} {sl49 : Array (Option Value)} {kV49 dc49 pm49 cd49 ct49 : Value}
    {oc50 : Value} {od50 an50 : Option Addr} {sl50 : Array (Option Value)} { dc50 pm50 cd50 ct50 : Value}
    {D50 : Addr}
    {e50_10 : Addr} {o_e50_10 : Option Addr} {m_e50_10 : Nat} {sl_e50_10 : Array (Option Value)}
    {e50_11 : Addr} {o_e50_11 : Option Addr} {m_e50_11 : Nat} {sl_e50_11 : Array (Option Value)}
    {e50_12 : Addr} {o_e50_12 : Option Addr} {m_e50_12 : Nat} {sl_e50_12 : Array (Option Value)}
    {e50_13 : Addr} {o_e50_13 : Option Addr} {m_e50_13 : Nat} {sl_e50_13 : Array (Option Value)}
    {oc51 : Value} {od51 an51 : Option Addr} {sl51 : Array (Option Value)} {kV51 dc51 pm51 cd51 ct51 : Value}
    {oc52 : Value} {od52 an52 : Option Addr} {sl52 : Array (Option Value)} {kV52 dc52 pm52 cd52 ct52 : Value}
    {oc53 : Value} {od53 an53 : Option Addr} {sl53 : Array (Option Value)} {kV53 dc53 pm53 cd53 ct53 : Value}
    {oc54 : Value} {od54 an54 : Option Addr} {sl54 : Array (Option Value)} {kV54 dc54 pm54 cd54 ct54 : Value}
    {oc55 : Value} {od55 an55 : Option Addr} {sl55 : Array (Option Value)} {kV55 dc55 pm55 cd55 ct55 : Value}
    {oc56 : Value} {od56 an56 : Option Addr} {sl56 : Array (Option Value)} {kV56 dc56 pm56 cd56 ct56 : Value}
    {oc57 : Value} {od57 an57 : Option Addr} {sl57 : Array (Option Value)} {kV57 dc57 pm57 cd57 ct57 : Value}
    {oc58 : Value} {od58 an58 : Option Addr} {sl58 : Array (Option Value)} {kV58 dc58 pm58 cd58 ct58 : Value}
    {oc59 : Value} {od59 an59 : Option Addr} {sl59 : Array (Option Value)} {kV59 dc59 pm59 cd59 ct59 : Value}
    {oc60 : Value} {od60 an60 : Option Addr} {sl60 : Array (Option Value)} {kV60 dc60 pm60 cd60 ct60 : Value}
    {oc61 : Value} {od61 an61 : Option Addr} {sl61 : Array (Option Value)} {kV61 dc61 pm61 cd61 ct61 : Value}
    {oc62 : Value} {od62 an62 : Option Addr} {sl62 : Array (Option Value)} {kV62 dc62 pm62 cd62 ct62 : Value}
    {oc63 : Value} {od63 an63 : Option Addr} {sl63 : Array (Option Value)} {kV63 dc63 pm63 cd63 ct63 : Value}
    {oc64 : Value} {od64 an64 : Option Addr} {sl64 : Array (Option Value)} {kV64 dc64 pm64  ct64 : Value}
    {cL_ : Addr} {eT : Value} {ddT : Option Addr} {vsT : Array Value} {slT : Array (Option Value)}
    {cLE fLE dLE : Addr} {ocLE : Value} {odLE anLE : Option Addr} {slLE : Array (Option Value)} {kVLE dcLE pmLE cdLE ctLE : Value} {oD : Option Addr} {mD : Nat} {slD : Array (Option Value)} {tLe1 tLe2 : Tok}
    {xBadBit : Addr}
    {xBadFrame : Addr}
    {xBadCount : Addr}
    {xBadRate : Addr}
    {xBadTaps : Addr}
    {xBadNoise : Addr}
    {xMissing : Addr}
    {fIBadBit : Addr} {nmBadBit qBadBit : Str} {NBadBit : Addr} {bsBadBit bmBadBit : List Value} {snBadBit : List Str} {subBadBit : List Value} {abBadBit : Bool} {colBadBit : Option Bool} {ddBadBit : Option Addr} {kaBadBit kbBadBit kcBadBit kdBadBit keBadBit : Option Value}
    {ocBadBit : Value} {odBadBit anBadBit : Option Addr} {slBadBit : Array (Option Value)} {kVBadBit dcBadBit pmBadBit cdBadBit ctBadBit : Value}
    {fIBadFrame : Addr} {nmBadFrame qBadFrame : Str} {NBadFrame : Addr} {bsBadFrame bmBadFrame : List Value} {snBadFrame : List Str} {subBadFrame : List Value} {abBadFrame : Bool} {colBadFrame : Option Bool} {ddBadFrame : Option Addr} {kaBadFrame kbBadFrame kcBadFrame kdBadFrame keBadFrame : Option Value}
    {ocBadFrame : Value} {odBadFrame anBadFrame : Option Addr} {slBadFrame : Array (Option Value)} {kVBadFrame dcBadFrame pmBadFrame cdBadFrame ctBadFrame : Value}
    {fIBadCount : Addr} {nmBadCount qBadCount : Str} {NBadCount : Addr} {bsBadCount bmBadCount : List Value} {snBadCount : List Str} {subBadCount : List Value} {abBadCount : Bool} {colBadCount : Option Bool} {ddBadCount : Option Addr} {kaBadCount kbBadCount kcBadCount kdBadCount keBadCount : Option Value}
    {ocBadCount : Value} {odBadCount anBadCount : Option Addr} {slBadCount : Array (Option Value)} {kVBadCount dcBadCount pmBadCount cdBadCount ctBadCount : Value}
    {fIBadRate : Addr} {nmBadRate qBadRate : Str} {NBadRate : Addr} {bsBadRate bmBadRate : List Value} {snBadRate : List Str} {subBadRate : List Value} {abBadRate : Bool} {colBadRate : Option Bool} {ddBadRate : Option Addr} {kaBadRate kbBadRate kcBadRate kdBadRate keBadRate : Option Value}
    {ocBadRate : Value} {odBadRate anBadRate : Option Addr} {slBadRate : Array (Option Value)} {kVBadRate dcBadRate pmBadRate cdBadRate ctBadRate : Value}
    {fIBadTaps : Addr} {nmBadTaps qBadTaps : Str} {NBadTaps : Addr} {bsBadTaps bmBadTaps : List Value} {snBadTaps : List Str} {subBadTaps : List Value} {abBadTaps : Bool} {colBadTaps : Option Bool} {ddBadTaps : Option Addr} {kaBadTaps kbBadTaps kcBadTaps kdBadTaps keBadTaps : Option Value}
    {ocBadTaps : Value} {odBadTaps anBadTaps : Option Addr} {slBadTaps : Array (Option Value)} {kVBadTaps dcBadTaps pmBadTaps cdBadTaps ctBadTaps : Value}
    {fIBadNoise : Addr} {nmBadNoise qBadNoise : Str} {NBadNoise : Addr} {bsBadNoise bmBadNoise : List Value} {snBadNoise : List Str} {subBadNoise : List Value} {abBadNoise : Bool} {colBadNoise : Option Bool} {ddBadNoise : Option Addr} {kaBadNoise kbBadNoise kcBadNoise kdBadNoise keBadNoise : Option Value}
    {ocBadNoise : Value} {odBadNoise anBadNoise : Option Addr} {slBadNoise : Array (Option Value)} {kVBadNoise dcBadNoise pmBadNoise cdBadNoise ctBadNoise : Value}
    {t_MOST_BITS : Tok}
    {t_MEMORY_BITS : Tok}
    {t_FOURTH : Tok}
    {t_SEVENTH : Tok}
    {t_SEAL : Tok}
    {a_TURNED : Addr} {o_TURNED : Option Addr} {m_TURNED : Nat} {sl_TURNED : Array (Option Value)} {t_TURNED0 t_TURNED1 t_TURNED2 : Tok}
    {t_MOST_ONES : Tok}
    {t_LONGEST : Tok}
    {a_MARK : Addr} {o_MARK : Option Addr} {m_MARK : Nat} {sl_MARK : Array (Option Value)} {t_MARK0 t_MARK1 t_MARK2 t_MARK3 t_MARK4 t_MARK5 t_MARK6 t_MARK7 : Tok}
    {t_RING : Tok}
    {a_RATES : Addr} {o_RATES : Option Addr} {m_RATES : Nat} {sl_RATES : Array (Option Value)} {t_RATES0 t_RATES1 t_RATES2 t_RATES3 : Tok}
    {t_FEWEST_POINTS : Tok}
    {t_MOST_SHARES : Tok}
    {t_GREATEST_SHARE : Tok}
    {t_TAIL : Tok}
    {t_DATA : Tok}
    {t_MOST_QUEUE : Tok}
    {t_MOST_OPEN : Tok}
    {t_STATES : Tok}
    {t_BURST : Tok}
    (r1Reader : PySem.W.nsIn K mainGlobals "Reader" = some (some (.ref cReader)))
    (r2Reader : PySem.W.plainGet K cReader Str.empty = true)
    (r3Reader : PySem.W.hasDictIn K cReader = true)
    (r4Reader : PySem.W.plainOver K cReader = true)
    (r5Reader : PySem.W.findIn K (.ref cReader) "__setattr__" = some (some (.builtin "object.__setattr__")))
    (r6Reader : PySem.W.makesIn K cReader = true)
    (r7Reader : PySem.W.keepIn K (.ref cReader) = true)
    (r_Reader_last : PySem.W.findIn K (.ref cReader) "last" = some none)
    (r_Reader_behind : PySem.W.findIn K (.ref cReader) "behind" = some none)
    (r_Reader_spoilt : PySem.W.findIn K (.ref cReader) "spoilt" = some none)
    (r1Scrambler : PySem.W.nsIn K mainGlobals "Scrambler" = some (some (.ref cScrambler)))
    (r2Scrambler : PySem.W.plainGet K cScrambler Str.empty = true)
    (r3Scrambler : PySem.W.hasDictIn K cScrambler = true)
    (r4Scrambler : PySem.W.plainOver K cScrambler = true)
    (r5Scrambler : PySem.W.findIn K (.ref cScrambler) "__setattr__" = some (some (.builtin "object.__setattr__")))
    (r6Scrambler : PySem.W.makesIn K cScrambler = true)
    (r7Scrambler : PySem.W.keepIn K (.ref cScrambler) = true)
    (r_Scrambler_cells : PySem.W.findIn K (.ref cScrambler) "cells" = some none)
    (r1Descrambler : PySem.W.nsIn K mainGlobals "Descrambler" = some (some (.ref cDescrambler)))
    (r2Descrambler : PySem.W.plainGet K cDescrambler Str.empty = true)
    (r3Descrambler : PySem.W.hasDictIn K cDescrambler = true)
    (r4Descrambler : PySem.W.plainOver K cDescrambler = true)
    (r5Descrambler : PySem.W.findIn K (.ref cDescrambler) "__setattr__" = some (some (.builtin "object.__setattr__")))
    (r6Descrambler : PySem.W.makesIn K cDescrambler = true)
    (r7Descrambler : PySem.W.keepIn K (.ref cDescrambler) = true)
    (r_Descrambler_cells : PySem.W.findIn K (.ref cDescrambler) "cells" = some none)
    (r1Shaper : PySem.W.nsIn K mainGlobals "Shaper" = some (some (.ref cShaper)))
    (r2Shaper : PySem.W.plainGet K cShaper Str.empty = true)
    (r3Shaper : PySem.W.hasDictIn K cShaper = true)
    (r4Shaper : PySem.W.plainOver K cShaper = true)
    (r5Shaper : PySem.W.findIn K (.ref cShaper) "__setattr__" = some (some (.builtin "object.__setattr__")))
    (r6Shaper : PySem.W.makesIn K cShaper = true)
    (r7Shaper : PySem.W.keepIn K (.ref cShaper) = true)
    (r_Shaper_taps : PySem.W.findIn K (.ref cShaper) "taps" = some none)
    (r_Shaper_tones : PySem.W.findIn K (.ref cShaper) "tones" = some none)
    (r1Mouth : PySem.W.nsIn K mainGlobals "Mouth" = some (some (.ref cMouth)))
    (r2Mouth : PySem.W.plainGet K cMouth Str.empty = true)
    (r3Mouth : PySem.W.hasDictIn K cMouth = true)
    (r4Mouth : PySem.W.plainOver K cMouth = true)
    (r5Mouth : PySem.W.findIn K (.ref cMouth) "__setattr__" = some (some (.builtin "object.__setattr__")))
    (r6Mouth : PySem.W.makesIn K cMouth = true)
    (r7Mouth : PySem.W.keepIn K (.ref cMouth) = true)
    (r_Mouth_speed : PySem.W.findIn K (.ref cMouth) "speed" = some none)
    (r_Mouth_shaper : PySem.W.findIn K (.ref cMouth) "shaper" = some none)
    (r_Mouth_scrambler : PySem.W.findIn K (.ref cMouth) "scrambler" = some none)
    (r_Mouth_queue : PySem.W.findIn K (.ref cMouth) "queue" = some none)
    (r1Ear : PySem.W.nsIn K mainGlobals "Ear" = some (some (.ref cEar)))
    (r2Ear : PySem.W.plainGet K cEar Str.empty = true)
    (r3Ear : PySem.W.hasDictIn K cEar = true)
    (r4Ear : PySem.W.plainOver K cEar = true)
    (r5Ear : PySem.W.findIn K (.ref cEar) "__setattr__" = some (some (.builtin "object.__setattr__")))
    (r6Ear : PySem.W.makesIn K cEar = true)
    (r7Ear : PySem.W.keepIn K (.ref cEar) = true)
    (r_Ear_speed : PySem.W.findIn K (.ref cEar) "speed" = some none)
    (r_Ear_taps : PySem.W.findIn K (.ref cEar) "taps" = some none)
    (r_Ear_descrambler : PySem.W.findIn K (.ref cEar) "descrambler" = some none)
    (r_Ear_reader : PySem.W.findIn K (.ref cEar) "reader" = some none)
    (r_Ear_tones : PySem.W.findIn K (.ref cEar) "tones" = some none)
    (r_Ear_unsure : PySem.W.findIn K (.ref cEar) "unsure" = some none)
    (r1Wire : PySem.W.nsIn K mainGlobals "Wire" = some (some (.ref cWire)))
    (r2Wire : PySem.W.plainGet K cWire Str.empty = true)
    (r3Wire : PySem.W.hasDictIn K cWire = true)
    (r4Wire : PySem.W.plainOver K cWire = true)
    (r5Wire : PySem.W.findIn K (.ref cWire) "__setattr__" = some (some (.builtin "object.__setattr__")))
    (r6Wire : PySem.W.makesIn K cWire = true)
    (r7Wire : PySem.W.keepIn K (.ref cWire) = true)
    (r_Wire_four : PySem.W.findIn K (.ref cWire) "four" = some none)
    (r_Wire_one_tones : PySem.W.findIn K (.ref cWire) "one_tones" = some none)
    (r_Wire_other_tones : PySem.W.findIn K (.ref cWire) "other_tones" = some none)
    (mr_Wire : PySem.W.mroIn K cWire (.type "object") = some true)
    (ne_Wire : PySem.W.findIn K (.ref cWire) "__ne__" = some (some (.builtin "object.__ne__")))
    (is1_Wire : PySem.W.findIn K (.ref cWire) "__class__" = some (some (.builtin "object.__class__")))
    (is2_Wire : PySem.W.specialIn K (.builtin "object.__class__") "__get__" = some (some (.builtin "getset_descriptor.__get__")))
    (is3_Wire : PySem.W.takesIn K (.builtin "object.__class__") = some true)
    (is5_Wire : PySem.W.kitOne K (.ref cWire) (.ref cWire) = some true)
    (sb_Wire_int : PySem.W.subIn K (.type "int") (.ref cWire) = some false)
    (sb_Wire_str : PySem.W.subIn K (.type "str") (.ref cWire) = some false)
    (kt_Wire_int : PySem.W.kitOne K (.type "int") (.ref cWire) = some false)
    (kt_Wire_str : PySem.W.kitOne K (.type "str") (.ref cWire) = some false)
    (a0 : PySem.W.nsIn K mainGlobals "check_bits" = some (some (.ref f0)))
    (l0 : K.lookup f0 = some ⟨oc0, od0, .func (PySem.W.fnOf "check_bits" "check_bits" (defArgs s_check_bits) (defBody s_check_bits) (defScope s_check_bits) .none kV0 dc0 pm0 an0 cd0 ct0), sl0⟩)
    (c0 : PySem.W.codeIn K cd0 "check_bits" = true)
    (k0 : PySem.W.keepIn K (.ref f0) = true)
    (a1 : PySem.W.nsIn K mainGlobals "bits_number" = some (some (.ref f1)))
    (l1 : K.lookup f1 = some ⟨oc1, od1, .func (PySem.W.fnOf "bits_number" "bits_number" (defArgs s_bits_number) (defBody s_bits_number) (defScope s_bits_number) .none kV1 dc1 pm1 an1 cd1 ct1), sl1⟩)
    (c1 : PySem.W.codeIn K cd1 "bits_number" = true)
    (k1 : PySem.W.keepIn K (.ref f1) = true)
    (a2 : PySem.W.nsIn K mainGlobals "number_bits" = some (some (.ref f2)))
    (l2 : K.lookup f2 = some ⟨oc2, od2, .func (PySem.W.fnOf "number_bits" "number_bits" (defArgs s_number_bits) (defBody s_number_bits) (defScope s_number_bits) .none kV2 dc2 pm2 an2 cd2 ct2), sl2⟩)
    (c2 : PySem.W.codeIn K cd2 "number_bits" = true)
    (k2 : PySem.W.keepIn K (.ref f2) = true)
    (a3 : PySem.W.nsIn K mainGlobals "moved_on" = some (some (.ref f3)))
    (l3 : K.lookup f3 = some ⟨oc3, od3, .func (PySem.W.fnOf "moved_on" "moved_on" (defArgs s_moved_on) (defBody s_moved_on) (defScope s_moved_on) .none kV3 dc3 pm3 an3 cd3 ct3), sl3⟩)
    (c3 : PySem.W.codeIn K cd3 "moved_on" = true)
    (k3 : PySem.W.keepIn K (.ref f3) = true)
    (a4 : PySem.W.nsIn K mainGlobals "seal_of" = some (some (.ref f4)))
    (l4 : K.lookup f4 = some ⟨oc4, od4, .func (PySem.W.fnOf "seal_of" "seal_of" (defArgs s_seal_of) (defBody s_seal_of) (defScope s_seal_of) .none kV4 dc4 pm4 an4 cd4 ct4), sl4⟩)
    (c4 : PySem.W.codeIn K cd4 "seal_of" = true)
    (k4 : PySem.W.keepIn K (.ref f4) = true)
    (a5 : PySem.W.nsIn K mainGlobals "holds" = some (some (.ref f5)))
    (l5 : K.lookup f5 = some ⟨oc5, od5, .func (PySem.W.fnOf "holds" "holds" (defArgs s_holds) (defBody s_holds) (defScope s_holds) .none kV5 dc5 pm5 an5 cd5 ct5), sl5⟩)
    (c5 : PySem.W.codeIn K cd5 "holds" = true)
    (k5 : PySem.W.keepIn K (.ref f5) = true)
    (a6 : PySem.W.nsIn K mainGlobals "unstuffed" = some (some (.ref f6)))
    (l6 : K.lookup f6 = some ⟨oc6, od6, .func (PySem.W.fnOf "unstuffed" "unstuffed" (defArgs s_unstuffed) (defBody s_unstuffed) (defScope s_unstuffed) .none kV6 dc6 pm6 an6 cd6 ct6), sl6⟩)
    (c6 : PySem.W.codeIn K cd6 "unstuffed" = true)
    (k6 : PySem.W.keepIn K (.ref f6) = true)
    (a7 : PySem.W.nsIn K mainGlobals "payload_between" = some (some (.ref f7)))
    (l7 : K.lookup f7 = some ⟨oc7, od7, .func (PySem.W.fnOf "payload_between" "payload_between" (defArgs s_payload_between) (defBody s_payload_between) (defScope s_payload_between) .none kV7 dc7 pm7 an7 cd7 ct7), sl7⟩)
    (c7 : PySem.W.codeIn K cd7 "payload_between" = true)
    (k7 : PySem.W.keepIn K (.ref f7) = true)
    (a8 : PySem.W.findIn K (.ref cReader) "__init__" = some (some (.ref f8)))
    (i8 : PySem.W.isFn K (.ref f8) = true)
    (l8 : K.lookup f8 = some ⟨oc8, od8, .func (PySem.W.fnOf "__init__" "Reader.__init__" (defArgs m_Reader___init__) (defBody m_Reader___init__) (defScope m_Reader___init__) .none kV8 dc8 pm8 an8 cd8 ct8), sl8⟩)
    (c8 : PySem.W.codeIn K cd8 "Reader.__init__" = true)
    (k8 : PySem.W.keepIn K (.ref f8) = true)
    (a9 : PySem.W.findIn K (.ref cReader) "pass_mark" = some (some (.ref f9)))
    (i9 : PySem.W.isFn K (.ref f9) = true)
    (l9 : K.lookup f9 = some ⟨oc9, od9, .func (PySem.W.fnOf "pass_mark" "Reader.pass_mark" (defArgs m_Reader_pass_mark) (defBody m_Reader_pass_mark) (defScope m_Reader_pass_mark) .none kV9 dc9 pm9 an9 cd9 ct9), sl9⟩)
    (c9 : PySem.W.codeIn K cd9 "Reader.pass_mark" = true)
    (k9 : PySem.W.keepIn K (.ref f9) = true)
    (a10 : PySem.W.findIn K (.ref cReader) "take_bit" = some (some (.ref f10)))
    (i10 : PySem.W.isFn K (.ref f10) = true)
    (l10 : K.lookup f10 = some ⟨oc10, od10, .func (PySem.W.fnOf "take_bit" "Reader.take_bit" (defArgs m_Reader_take_bit) (defBody m_Reader_take_bit) (defScope m_Reader_take_bit) .none kV10 dc10 pm10 an10 cd10 ct10), sl10⟩)
    (c10 : PySem.W.codeIn K cd10 "Reader.take_bit" = true)
    (k10 : PySem.W.keepIn K (.ref f10) = true)
    (a11 : PySem.W.findIn K (.ref cReader) "take" = some (some (.ref f11)))
    (i11 : PySem.W.isFn K (.ref f11) = true)
    (l11 : K.lookup f11 = some ⟨oc11, od11, .func (PySem.W.fnOf "take" "Reader.take" (defArgs m_Reader_take) (defBody m_Reader_take) (defScope m_Reader_take) .none kV11 dc11 pm11 an11 cd11 ct11), sl11⟩)
    (c11 : PySem.W.codeIn K cd11 "Reader.take" = true)
    (k11 : PySem.W.keepIn K (.ref f11) = true)
    (a12 : PySem.W.findIn K (.ref cReader) "hurt" = some (some (.ref f12)))
    (i12 : PySem.W.isFn K (.ref f12) = true)
    (l12 : K.lookup f12 = some ⟨oc12, od12, .func (PySem.W.fnOf "hurt" "Reader.hurt" (defArgs m_Reader_hurt) (defBody m_Reader_hurt) (defScope m_Reader_hurt) .none kV12 dc12 pm12 an12 cd12 ct12), sl12⟩)
    (c12 : PySem.W.codeIn K cd12 "Reader.hurt" = true)
    (k12 : PySem.W.keepIn K (.ref f12) = true)
    (a13 : PySem.W.nsIn K mainGlobals "check_rate" = some (some (.ref f13)))
    (l13 : K.lookup f13 = some ⟨oc13, od13, .func (PySem.W.fnOf "check_rate" "check_rate" (defArgs s_check_rate) (defBody s_check_rate) (defScope s_check_rate) .none kV13 dc13 pm13 an13 cd13 ct13), sl13⟩)
    (c13 : PySem.W.codeIn K cd13 "check_rate" = true)
    (k13 : PySem.W.keepIn K (.ref f13) = true)
    (a14 : PySem.W.nsIn K mainGlobals "folded" = some (some (.ref f14)))
    (l14 : K.lookup f14 = some ⟨oc14, od14, .func (PySem.W.fnOf "folded" "folded" (defArgs s_folded) (defBody s_folded) (defScope s_folded) .none kV14 dc14 pm14 an14 cd14 ct14), sl14⟩)
    (c14 : PySem.W.codeIn K cd14 "folded" = true)
    (k14 : PySem.W.keepIn K (.ref f14) = true)
    (a15 : PySem.W.nsIn K mainGlobals "apart" = some (some (.ref f15)))
    (l15 : K.lookup f15 = some ⟨oc15, od15, .func (PySem.W.fnOf "apart" "apart" (defArgs s_apart) (defBody s_apart) (defScope s_apart) .none kV15 dc15 pm15 an15 cd15 ct15), sl15⟩)
    (c15 : PySem.W.codeIn K cd15 "apart" = true)
    (k15 : PySem.W.keepIn K (.ref f15) = true)
    (a16 : PySem.W.nsIn K mainGlobals "points_at" = some (some (.ref f16)))
    (l16 : K.lookup f16 = some ⟨oc16, od16, .func (PySem.W.fnOf "points_at" "points_at" (defArgs s_points_at) (defBody s_points_at) (defScope s_points_at) .none kV16 dc16 pm16 an16 cd16 ct16), sl16⟩)
    (c16 : PySem.W.codeIn K cd16 "points_at" = true)
    (k16 : PySem.W.keepIn K (.ref f16) = true)
    (a17 : PySem.W.nsIn K mainGlobals "step" = some (some (.ref f17)))
    (l17 : K.lookup f17 = some ⟨oc17, od17, .func (PySem.W.fnOf "step" "step" (defArgs s_step) (defBody s_step) (defScope s_step) .none kV17 dc17 pm17 an17 cd17 ct17), sl17⟩)
    (c17 : PySem.W.codeIn K cd17 "step" = true)
    (k17 : PySem.W.keepIn K (.ref f17) = true)
    (a18 : PySem.W.nsIn K mainGlobals "point" = some (some (.ref f18)))
    (l18 : K.lookup f18 = some ⟨oc18, od18, .func (PySem.W.fnOf "point" "point" (defArgs s_point) (defBody s_point) (defScope s_point) .none (.ref D18) dc18 pm18 an18 cd18 ct18), sl18⟩)
    (v18 : PySem.W.nsIn K D18 "rate" = some (some (.int 1 tD18)))
    (c18 : PySem.W.codeIn K cd18 "point" = true)
    (k18 : PySem.W.keepIn K (.ref f18) = true)
    (a19 : PySem.W.nsIn K mainGlobals "moved" = some (some (.ref f19)))
    (l19 : K.lookup f19 = some ⟨oc19, od19, .func (PySem.W.fnOf "moved" "moved" (defArgs s_moved) (defBody s_moved) (defScope s_moved) .none kV19 dc19 pm19 an19 cd19 ct19), sl19⟩)
    (c19 : PySem.W.codeIn K cd19 "moved" = true)
    (k19 : PySem.W.keepIn K (.ref f19) = true)
    (a20 : PySem.W.nsIn K mainGlobals "class_of" = some (some (.ref f20)))
    (l20 : K.lookup f20 = some ⟨oc20, od20, .func (PySem.W.fnOf "class_of" "class_of" (defArgs s_class_of) (defBody s_class_of) (defScope s_class_of) .none kV20 dc20 pm20 an20 cd20 ct20), sl20⟩)
    (c20 : PySem.W.codeIn K cd20 "class_of" = true)
    (k20 : PySem.W.keepIn K (.ref f20) = true)
    (a21 : PySem.W.nsIn K mainGlobals "coded" = some (some (.ref f21)))
    (l21 : K.lookup f21 = some ⟨oc21, od21, .func (PySem.W.fnOf "coded" "coded" (defArgs s_coded) (defBody s_coded) (defScope s_coded) .none (.ref D21) dc21 pm21 an21 cd21 ct21), sl21⟩)
    (v21 : PySem.W.nsIn K D21 "rate" = some (some (.int 1 tD21)))
    (c21 : PySem.W.codeIn K cd21 "coded" = true)
    (k21 : PySem.W.keepIn K (.ref f21) = true)
    (a22 : PySem.W.nsIn K mainGlobals "nearest_of_class" = some (some (.ref f22)))
    (l22 : K.lookup f22 = some ⟨oc22, od22, .func (PySem.W.fnOf "nearest_of_class" "nearest_of_class" (defArgs s_nearest_of_class) (defBody s_nearest_of_class) (defScope s_nearest_of_class) .none kV22 dc22 pm22 an22 cd22 ct22), sl22⟩)
    (c22 : PySem.W.codeIn K cd22 "nearest_of_class" = true)
    (k22 : PySem.W.keepIn K (.ref f22) = true)
    (a23 : PySem.W.nsIn K mainGlobals "onward" = some (some (.ref f23)))
    (l23 : K.lookup f23 = some ⟨oc23, od23, .func (PySem.W.fnOf "onward" "onward" (defArgs s_onward) (defBody s_onward) (defScope s_onward) .none kV23 dc23 pm23 an23 cd23 ct23), sl23⟩)
    (c23 : PySem.W.codeIn K cd23 "onward" = true)
    (k23 : PySem.W.keepIn K (.ref f23) = true)
    (a24 : PySem.W.nsIn K mainGlobals "best_of_beat" = some (some (.ref f24)))
    (l24 : K.lookup f24 = some ⟨oc24, od24, .func (PySem.W.fnOf "best_of_beat" "best_of_beat" (defArgs s_best_of_beat) (defBody s_best_of_beat) (defScope s_best_of_beat) .none kV24 dc24 pm24 an24 cd24 ct24), sl24⟩)
    (c24 : PySem.W.codeIn K cd24 "best_of_beat" = true)
    (k24 : PySem.W.keepIn K (.ref f24) = true)
    (a25 : PySem.W.nsIn K mainGlobals "tail_costs" = some (some (.ref f25)))
    (l25 : K.lookup f25 = some ⟨oc25, od25, .func (PySem.W.fnOf "tail_costs" "tail_costs" (defArgs s_tail_costs) (defBody s_tail_costs) (defScope s_tail_costs) .none kV25 dc25 pm25 an25 cd25 ct25), sl25⟩)
    (c25 : PySem.W.codeIn K cd25 "tail_costs" = true)
    (k25 : PySem.W.keepIn K (.ref f25) = true)
    (a26 : PySem.W.nsIn K mainGlobals "bits_along" = some (some (.ref f26)))
    (l26 : K.lookup f26 = some ⟨oc26, od26, .func (PySem.W.fnOf "bits_along" "bits_along" (defArgs s_bits_along) (defBody s_bits_along) (defScope s_bits_along) .none kV26 dc26 pm26 an26 cd26 ct26), sl26⟩)
    (c26 : PySem.W.codeIn K cd26 "bits_along" = true)
    (k26 : PySem.W.keepIn K (.ref f26) = true)
    (a27 : PySem.W.nsIn K mainGlobals "heard_path" = some (some (.ref f27)))
    (l27 : K.lookup f27 = some ⟨oc27, od27, .func (PySem.W.fnOf "heard_path" "heard_path" (defArgs s_heard_path) (defBody s_heard_path) (defScope s_heard_path) .none (.ref D27) dc27 pm27 an27 cd27 ct27), sl27⟩)
    (v27 : PySem.W.nsIn K D27 "rate" = some (some (.int 1 tD27)))
    (c27 : PySem.W.codeIn K cd27 "heard_path" = true)
    (k27 : PySem.W.keepIn K (.ref f27) = true)
    (a28 : PySem.W.nsIn K mainGlobals "pushed_through" = some (some (.ref f28)))
    (l28 : K.lookup f28 = some ⟨oc28, od28, .func (PySem.W.fnOf "pushed_through" "pushed_through" (defArgs s_pushed_through) (defBody s_pushed_through) (defScope s_pushed_through) .none kV28 dc28 pm28 an28 cd28 ct28), sl28⟩)
    (c28 : PySem.W.codeIn K cd28 "pushed_through" = true)
    (k28 : PySem.W.keepIn K (.ref f28) = true)
    (a29 : PySem.W.findIn K (.ref cScrambler) "__init__" = some (some (.ref f29)))
    (i29 : PySem.W.isFn K (.ref f29) = true)
    (l29 : K.lookup f29 = some ⟨oc29, od29, .func (PySem.W.fnOf "__init__" "Scrambler.__init__" (defArgs m_Scrambler___init__) (defBody m_Scrambler___init__) (defScope m_Scrambler___init__) .none (.ref D29) dc29 pm29 an29 cd29 ct29), sl29⟩)
    (v29 : PySem.W.nsIn K D29 "seed" = some (some (.int 0 tD29)))
    (c29 : PySem.W.codeIn K cd29 "Scrambler.__init__" = true)
    (k29 : PySem.W.keepIn K (.ref f29) = true)
    (a30 : PySem.W.findIn K (.ref cScrambler) "push" = some (some (.ref f30)))
    (i30 : PySem.W.isFn K (.ref f30) = true)
    (l30 : K.lookup f30 = some ⟨oc30, od30, .func (PySem.W.fnOf "push" "Scrambler.push" (defArgs m_Scrambler_push) (defBody m_Scrambler_push) (defScope m_Scrambler_push) .none kV30 dc30 pm30 an30 cd30 ct30), sl30⟩)
    (c30 : PySem.W.codeIn K cd30 "Scrambler.push" = true)
    (k30 : PySem.W.keepIn K (.ref f30) = true)
    (a31 : PySem.W.findIn K (.ref cScrambler) "memory" = some (some (.ref f31)))
    (i31 : PySem.W.isFn K (.ref f31) = true)
    (l31 : K.lookup f31 = some ⟨oc31, od31, .func (PySem.W.fnOf "memory" "Scrambler.memory" (defArgs m_Scrambler_memory) (defBody m_Scrambler_memory) (defScope m_Scrambler_memory) .none kV31 dc31 pm31 an31 cd31 ct31), sl31⟩)
    (c31 : PySem.W.codeIn K cd31 "Scrambler.memory" = true)
    (k31 : PySem.W.keepIn K (.ref f31) = true)
    (a32 : PySem.W.findIn K (.ref cDescrambler) "__init__" = some (some (.ref f32)))
    (i32 : PySem.W.isFn K (.ref f32) = true)
    (l32 : K.lookup f32 = some ⟨oc32, od32, .func (PySem.W.fnOf "__init__" "Descrambler.__init__" (defArgs m_Descrambler___init__) (defBody m_Descrambler___init__) (defScope m_Descrambler___init__) .none (.ref D32) dc32 pm32 an32 cd32 ct32), sl32⟩)
    (v32 : PySem.W.nsIn K D32 "seed" = some (some (.int 0 tD32)))
    (c32 : PySem.W.codeIn K cd32 "Descrambler.__init__" = true)
    (k32 : PySem.W.keepIn K (.ref f32) = true)
    (a33 : PySem.W.findIn K (.ref cDescrambler) "push" = some (some (.ref f33)))
    (i33 : PySem.W.isFn K (.ref f33) = true)
    (l33 : K.lookup f33 = some ⟨oc33, od33, .func (PySem.W.fnOf "push" "Descrambler.push" (defArgs m_Descrambler_push) (defBody m_Descrambler_push) (defScope m_Descrambler_push) .none kV33 dc33 pm33 an33 cd33 ct33), sl33⟩)
    (c33 : PySem.W.codeIn K cd33 "Descrambler.push" = true)
    (k33 : PySem.W.keepIn K (.ref f33) = true)
    (a34 : PySem.W.findIn K (.ref cDescrambler) "memory" = some (some (.ref f34)))
    (i34 : PySem.W.isFn K (.ref f34) = true)
    (l34 : K.lookup f34 = some ⟨oc34, od34, .func (PySem.W.fnOf "memory" "Descrambler.memory" (defArgs m_Descrambler_memory) (defBody m_Descrambler_memory) (defScope m_Descrambler_memory) .none kV34 dc34 pm34 an34 cd34 ct34), sl34⟩)
    (c34 : PySem.W.codeIn K cd34 "Descrambler.memory" = true)
    (k34 : PySem.W.keepIn K (.ref f34) = true)
    (a35 : PySem.W.nsIn K mainGlobals "without_last_noughts" = some (some (.ref f35)))
    (l35 : K.lookup f35 = some ⟨oc35, od35, .func (PySem.W.fnOf "without_last_noughts" "without_last_noughts" (defArgs s_without_last_noughts) (defBody s_without_last_noughts) (defScope s_without_last_noughts) .none kV35 dc35 pm35 an35 cd35 ct35), sl35⟩)
    (c35 : PySem.W.codeIn K cd35 "without_last_noughts" = true)
    (k35 : PySem.W.keepIn K (.ref f35) = true)
    (a36 : PySem.W.nsIn K mainGlobals "right_shares" = some (some (.ref f36)))
    (l36 : K.lookup f36 = some ⟨oc36, od36, .func (PySem.W.fnOf "right_shares" "right_shares" (defArgs s_right_shares) (defBody s_right_shares) (defScope s_right_shares) .none kV36 dc36 pm36 an36 cd36 ct36), sl36⟩)
    (c36 : PySem.W.codeIn K cd36 "right_shares" = true)
    (k36 : PySem.W.keepIn K (.ref f36) = true)
    (a37 : PySem.W.nsIn K mainGlobals "left_behind" = some (some (.ref f37)))
    (l37 : K.lookup f37 = some ⟨oc37, od37, .func (PySem.W.fnOf "left_behind" "left_behind" (defArgs s_left_behind) (defBody s_left_behind) (defScope s_left_behind) .none kV37 dc37 pm37 an37 cd37 ct37), sl37⟩)
    (c37 : PySem.W.codeIn K cd37 "left_behind" = true)
    (k37 : PySem.W.keepIn K (.ref f37) = true)
    (a38 : PySem.W.nsIn K mainGlobals "no_tones" = some (some (.ref f38)))
    (l38 : K.lookup f38 = some ⟨oc38, od38, .func (PySem.W.fnOf "no_tones" "no_tones" (defArgs s_no_tones) (defBody s_no_tones) (defScope s_no_tones) .none kV38 dc38 pm38 an38 cd38 ct38), sl38⟩)
    (c38 : PySem.W.codeIn K cd38 "no_tones" = true)
    (k38 : PySem.W.keepIn K (.ref f38) = true)
    (a39 : PySem.W.nsIn K mainGlobals "with_latest" = some (some (.ref f39)))
    (l39 : K.lookup f39 = some ⟨oc39, od39, .func (PySem.W.fnOf "with_latest" "with_latest" (defArgs s_with_latest) (defBody s_with_latest) (defScope s_with_latest) .none kV39 dc39 pm39 an39 cd39 ct39), sl39⟩)
    (c39 : PySem.W.codeIn K cd39 "with_latest" = true)
    (k39 : PySem.W.keepIn K (.ref f39) = true)
    (a40 : PySem.W.findIn K (.ref cShaper) "__init__" = some (some (.ref f40)))
    (i40 : PySem.W.isFn K (.ref f40) = true)
    (l40 : K.lookup f40 = some ⟨oc40, od40, .func (PySem.W.fnOf "__init__" "Shaper.__init__" (defArgs m_Shaper___init__) (defBody m_Shaper___init__) (defScope m_Shaper___init__) (.ref dT40) kV40 dc40 pm40 an40 cd40 ct40), sl40⟩)
    (pd40 : K.lookup dT40 = some ⟨.type "tuple", oT40, .seq #[.ref e40_0] mT40, slT40⟩)
    (w_e40_0 : K.lookup e40_0 = some ⟨.type "tuple", o_e40_0, .seq #[] m_e40_0, sl_e40_0⟩)
    (c40 : PySem.W.codeIn K cd40 "Shaper.__init__" = true)
    (k40 : PySem.W.keepIn K (.ref f40) = true)
    (a41 : PySem.W.findIn K (.ref cShaper) "say" = some (some (.ref f41)))
    (i41 : PySem.W.isFn K (.ref f41) = true)
    (l41 : K.lookup f41 = some ⟨oc41, od41, .func (PySem.W.fnOf "say" "Shaper.say" (defArgs m_Shaper_say) (defBody m_Shaper_say) (defScope m_Shaper_say) .none kV41 dc41 pm41 an41 cd41 ct41), sl41⟩)
    (c41 : PySem.W.codeIn K cd41 "Shaper.say" = true)
    (k41 : PySem.W.keepIn K (.ref f41) = true)
    (a42 : PySem.W.findIn K (.ref cShaper) "past" = some (some (.ref f42)))
    (i42 : PySem.W.isFn K (.ref f42) = true)
    (l42 : K.lookup f42 = some ⟨oc42, od42, .func (PySem.W.fnOf "past" "Shaper.past" (defArgs m_Shaper_past) (defBody m_Shaper_past) (defScope m_Shaper_past) .none kV42 dc42 pm42 an42 cd42 ct42), sl42⟩)
    (c42 : PySem.W.codeIn K cd42 "Shaper.past" = true)
    (k42 : PySem.W.keepIn K (.ref f42) = true)
    (a43 : PySem.W.nsIn K mainGlobals "burst_bits" = some (some (.ref f43)))
    (l43 : K.lookup f43 = some ⟨oc43, od43, .func (PySem.W.fnOf "burst_bits" "burst_bits" (defArgs s_burst_bits) (defBody s_burst_bits) (defScope s_burst_bits) .none kV43 dc43 pm43 an43 cd43 ct43), sl43⟩)
    (c43 : PySem.W.codeIn K cd43 "burst_bits" = true)
    (k43 : PySem.W.keepIn K (.ref f43) = true)
    (a44 : PySem.W.findIn K (.ref cMouth) "__init__" = some (some (.ref f44)))
    (i44 : PySem.W.isFn K (.ref f44) = true)
    (l44 : K.lookup f44 = some ⟨oc44, od44, .func (PySem.W.fnOf "__init__" "Mouth.__init__" (defArgs m_Mouth___init__) (defBody m_Mouth___init__) (defScope m_Mouth___init__) (.ref dT44) (.ref D44) dc44 pm44 an44 cd44 ct44), sl44⟩)
    (pd44 : K.lookup dT44 = some ⟨.type "tuple", oT44, .seq #[.ref e44_0] mT44, slT44⟩)
    (v44_0 : PySem.W.nsIn K D44 "rate" = some (some (.int 1 t_e44_10)))
    (v44_1 : PySem.W.nsIn K D44 "seed" = some (some (.int 0 t_e44_11)))
    (w_e44_0 : K.lookup e44_0 = some ⟨.type "tuple", o_e44_0, .seq #[] m_e44_0, sl_e44_0⟩)
    (c44 : PySem.W.codeIn K cd44 "Mouth.__init__" = true)
    (k44 : PySem.W.keepIn K (.ref f44) = true)
    (a45 : PySem.W.findIn K (.ref cMouth) "burst" = some (some (.ref f45)))
    (i45 : PySem.W.isFn K (.ref f45) = true)
    (l45 : K.lookup f45 = some ⟨oc45, od45, .func (PySem.W.fnOf "burst" "Mouth.burst" (defArgs m_Mouth_burst) (defBody m_Mouth_burst) (defScope m_Mouth_burst) .none kV45 dc45 pm45 an45 cd45 ct45), sl45⟩)
    (c45 : PySem.W.codeIn K cd45 "Mouth.burst" = true)
    (k45 : PySem.W.keepIn K (.ref f45) = true)
    (a46 : PySem.W.nsIn K mainGlobals "check_burst" = some (some (.ref f46)))
    (l46 : K.lookup f46 = some ⟨oc46, od46, .func (PySem.W.fnOf "check_burst" "check_burst" (defArgs s_check_burst) (defBody s_check_burst) (defScope s_check_burst) .none kV46 dc46 pm46 an46 cd46 ct46), sl46⟩)
    (c46 : PySem.W.codeIn K cd46 "check_burst" = true)
    (k46 : PySem.W.keepIn K (.ref f46) = true)
    (a47 : PySem.W.findIn K (.ref cEar) "__init__" = some (some (.ref f47)))
    (i47 : PySem.W.isFn K (.ref f47) = true)
    (l47 : K.lookup f47 = some ⟨oc47, od47, .func (PySem.W.fnOf "__init__" "Ear.__init__" (defArgs m_Ear___init__) (defBody m_Ear___init__) (defScope m_Ear___init__) (.ref dT47) (.ref D47) dc47 pm47 an47 cd47 ct47), sl47⟩)
    (pd47 : K.lookup dT47 = some ⟨.type "tuple", oT47, .seq #[.ref e47_0] mT47, slT47⟩)
    (v47_0 : PySem.W.nsIn K D47 "rate" = some (some (.int 1 t_e47_10)))
    (v47_1 : PySem.W.nsIn K D47 "seed" = some (some (.int 0 t_e47_11)))
    (w_e47_0 : K.lookup e47_0 = some ⟨.type "tuple", o_e47_0, .seq #[] m_e47_0, sl_e47_0⟩)
    (c47 : PySem.W.codeIn K cd47 "Ear.__init__" = true)
    (k47 : PySem.W.keepIn K (.ref f47) = true)
    (a48 : PySem.W.findIn K (.ref cEar) "hear" = some (some (.ref f48)))
    (i48 : PySem.W.isFn K (.ref f48) = true)
    (l48 : K.lookup f48 = some ⟨oc48, od48, .func (PySem.W.fnOf "hear" "Ear.hear" (defArgs m_Ear_hear) (defBody m_Ear_hear) (defScope m_Ear_hear) .none kV48 dc48 pm48 an48 cd48 ct48), sl48⟩)
    (c48 : PySem.W.codeIn K cd48 "Ear.hear" = true)
    (k48 : PySem.W.keepIn K (.ref f48) = true)
    (a49 : PySem.W.findIn K (.ref cEar) "hurt" = some (some (.ref f49)))
    (i49 : PySem.W.isFn K (.ref f49) = true)
    (l49 : K.lookup f49 = some ⟨oc49, od49, .func (PySem.W.fnOf "hurt" "Ear.hurt" (defArgs m_Ear_hurt) (defBody m_Ear_hurt) (defScope m_Ear_hurt) .none kV49 dc49 pm49 an49 cd49 ct49), sl49⟩)
    (c49 : PySem.W.codeIn K cd49 "Ear.hurt" = true)
    (k49 : PySem.W.keepIn K (.ref f49) = true)
    (a50 : PySem.W.findIn K (.ref cWire) "__init__" = some (some (.ref f50)))
    (i50 : PySem.W.isFn K (.ref f50) = true)
    (l50 : K.lookup f50 = some ⟨oc50, od50, .func (PySem.W.fnOf "__init__" "Wire.__init__" (defArgs m_Wire___init__) (defBody m_Wire___init__) (defScope m_Wire___init__) .none (.ref D50) dc50 pm50 an50 cd50 ct50), sl50⟩)
    (v50_0 : PySem.W.nsIn K D50 "forth" = some (some (.ref e50_10)))
    (v50_1 : PySem.W.nsIn K D50 "back" = some (some (.ref e50_11)))
    (v50_2 : PySem.W.nsIn K D50 "near" = some (some (.ref e50_12)))
    (v50_3 : PySem.W.nsIn K D50 "far" = some (some (.ref e50_13)))
    (w_e50_10 : K.lookup e50_10 = some ⟨.type "tuple", o_e50_10, .seq #[] m_e50_10, sl_e50_10⟩)
    (w_e50_11 : K.lookup e50_11 = some ⟨.type "tuple", o_e50_11, .seq #[] m_e50_11, sl_e50_11⟩)
    (w_e50_12 : K.lookup e50_12 = some ⟨.type "tuple", o_e50_12, .seq #[] m_e50_12, sl_e50_12⟩)
    (w_e50_13 : K.lookup e50_13 = some ⟨.type "tuple", o_e50_13, .seq #[] m_e50_13, sl_e50_13⟩)
    (c50 : PySem.W.codeIn K cd50 "Wire.__init__" = true)
    (k50 : PySem.W.keepIn K (.ref f50) = true)
    (a51 : PySem.W.findIn K (.ref cWire) "shares" = some (some (.ref f51)))
    (i51 : PySem.W.isFn K (.ref f51) = true)
    (l51 : K.lookup f51 = some ⟨oc51, od51, .func (PySem.W.fnOf "shares" "Wire.shares" (defArgs m_Wire_shares) (defBody m_Wire_shares) (defScope m_Wire_shares) .none kV51 dc51 pm51 an51 cd51 ct51), sl51⟩)
    (c51 : PySem.W.codeIn K cd51 "Wire.shares" = true)
    (k51 : PySem.W.keepIn K (.ref f51) = true)
    (a52 : PySem.W.findIn K (.ref cWire) "__eq__" = some (some (.ref f52)))
    (i52 : PySem.W.isFn K (.ref f52) = true)
    (l52 : K.lookup f52 = some ⟨oc52, od52, .func (PySem.W.fnOf "__eq__" "Wire.__eq__" (defArgs m_Wire___eq__) (defBody m_Wire___eq__) (defScope m_Wire___eq__) .none kV52 dc52 pm52 an52 cd52 ct52), sl52⟩)
    (c52 : PySem.W.codeIn K cd52 "Wire.__eq__" = true)
    (k52 : PySem.W.keepIn K (.ref f52) = true)
    (a53 : PySem.W.nsIn K mainGlobals "_law_bag" = some (some (.ref f53)))
    (l53 : K.lookup f53 = some ⟨oc53, od53, .func (PySem.W.fnOf "_law_bag" "_law_bag" (defArgs s__law_bag) (defBody s__law_bag) (defScope s__law_bag) .none kV53 dc53 pm53 an53 cd53 ct53), sl53⟩)
    (c53 : PySem.W.codeIn K cd53 "_law_bag" = true)
    (k53 : PySem.W.keepIn K (.ref f53) = true)
    (a54 : PySem.W.nsIn K mainGlobals "_law_pick" = some (some (.ref f54)))
    (l54 : K.lookup f54 = some ⟨oc54, od54, .func (PySem.W.fnOf "_law_pick" "_law_pick" (defArgs s__law_pick) (defBody s__law_pick) (defScope s__law_pick) .none kV54 dc54 pm54 an54 cd54 ct54), sl54⟩)
    (c54 : PySem.W.codeIn K cd54 "_law_pick" = true)
    (k54 : PySem.W.keepIn K (.ref f54) = true)
    (a55 : PySem.W.nsIn K mainGlobals "_law_of" = some (some (.ref f55)))
    (l55 : K.lookup f55 = some ⟨oc55, od55, .func (PySem.W.fnOf "_law_of" "_law_of" (defArgs s__law_of) (defBody s__law_of) (defScope s__law_of) .none kV55 dc55 pm55 an55 cd55 ct55), sl55⟩)
    (c55 : PySem.W.codeIn K cd55 "_law_of" = true)
    (k55 : PySem.W.keepIn K (.ref f55) = true)
    (a56 : PySem.W.nsIn K mainGlobals "_law_same" = some (some (.ref f56)))
    (l56 : K.lookup f56 = some ⟨oc56, od56, .func (PySem.W.fnOf "_law_same" "_law_same" (defArgs s__law_same) (defBody s__law_same) (defScope s__law_same) .none kV56 dc56 pm56 an56 cd56 ct56), sl56⟩)
    (c56 : PySem.W.codeIn K cd56 "_law_same" = true)
    (k56 : PySem.W.keepIn K (.ref f56) = true)
    (a57 : PySem.W.nsIn K mainGlobals "_law_tried" = some (some (.ref f57)))
    (l57 : K.lookup f57 = some ⟨oc57, od57, .func (PySem.W.fnOf "_law_tried" "_law_tried" (defArgs s__law_tried) (defBody s__law_tried) (defScope s__law_tried) .none kV57 dc57 pm57 an57 cd57 ct57), sl57⟩)
    (c57 : PySem.W.codeIn K cd57 "_law_tried" = true)
    (k57 : PySem.W.keepIn K (.ref f57) = true)
    (a58 : PySem.W.nsIn K mainGlobals "_law_far" = some (some (.ref f58)))
    (l58 : K.lookup f58 = some ⟨oc58, od58, .func (PySem.W.fnOf "_law_far" "_law_far" (defArgs s__law_far) (defBody s__law_far) (defScope s__law_far) .none kV58 dc58 pm58 an58 cd58 ct58), sl58⟩)
    (c58 : PySem.W.codeIn K cd58 "_law_far" = true)
    (k58 : PySem.W.keepIn K (.ref f58) = true)
    (a59 : PySem.W.nsIn K mainGlobals "_law_shares" = some (some (.ref f59)))
    (l59 : K.lookup f59 = some ⟨oc59, od59, .func (PySem.W.fnOf "_law_shares" "_law_shares" (defArgs s__law_shares) (defBody s__law_shares) (defScope s__law_shares) .none kV59 dc59 pm59 an59 cd59 ct59), sl59⟩)
    (c59 : PySem.W.codeIn K cd59 "_law_shares" = true)
    (k59 : PySem.W.keepIn K (.ref f59) = true)
    (a60 : PySem.W.nsIn K mainGlobals "_law_trimmed" = some (some (.ref f60)))
    (l60 : K.lookup f60 = some ⟨oc60, od60, .func (PySem.W.fnOf "_law_trimmed" "_law_trimmed" (defArgs s__law_trimmed) (defBody s__law_trimmed) (defScope s__law_trimmed) .none kV60 dc60 pm60 an60 cd60 ct60), sl60⟩)
    (c60 : PySem.W.codeIn K cd60 "_law_trimmed" = true)
    (k60 : PySem.W.keepIn K (.ref f60) = true)
    (a61 : PySem.W.nsIn K mainGlobals "_law_tone" = some (some (.ref f61)))
    (l61 : K.lookup f61 = some ⟨oc61, od61, .func (PySem.W.fnOf "_law_tone" "_law_tone" (defArgs s__law_tone) (defBody s__law_tone) (defScope s__law_tone) .none kV61 dc61 pm61 an61 cd61 ct61), sl61⟩)
    (c61 : PySem.W.codeIn K cd61 "_law_tone" = true)
    (k61 : PySem.W.keepIn K (.ref f61) = true)
    (a62 : PySem.W.nsIn K mainGlobals "_law_bad_shares" = some (some (.ref f62)))
    (l62 : K.lookup f62 = some ⟨oc62, od62, .func (PySem.W.fnOf "_law_bad_shares" "_law_bad_shares" (defArgs s__law_bad_shares) (defBody s__law_bad_shares) (defScope s__law_bad_shares) .none kV62 dc62 pm62 an62 cd62 ct62), sl62⟩)
    (c62 : PySem.W.codeIn K cd62 "_law_bad_shares" = true)
    (k62 : PySem.W.keepIn K (.ref f62) = true)
    (a63 : PySem.W.nsIn K mainGlobals "_law_noughts_behind" = some (some (.ref f63)))
    (l63 : K.lookup f63 = some ⟨oc63, od63, .func (PySem.W.fnOf "_law_noughts_behind" "_law_noughts_behind" (defArgs s__law_noughts_behind) (defBody s__law_noughts_behind) (defScope s__law_noughts_behind) .none kV63 dc63 pm63 an63 cd63 ct63), sl63⟩)
    (c63 : PySem.W.codeIn K cd63 "_law_noughts_behind" = true)
    (k63 : PySem.W.keepIn K (.ref f63) = true)
    (a64 : PySem.W.nsIn K mainGlobals "law" = some (some (.ref f64)))
    (l64 : K.lookup f64 = some ⟨oc64, od64, .func (PySem.W.fnOf "law" "law" (defArgs s_law) (defBody s_law) (defScope s_law) .none kV64 dc64 pm64 an64 (.ref cL_) ct64), sl64⟩)
    (c64 : PySem.W.codeIn K (.ref cL_) "law" = true)
    (k64 : PySem.W.keepIn K (.ref f64) = true)
    (t1 : K.lookup cL_ = some ⟨eT, ddT, .fields vsT, slT⟩)
    (t2 : (vsT[11]? : Option Value) = some (.ref tP))
    (t3 : PySem.W.codeHdIn K cL_ tP = true)
    (t4 : K.lookup tP = none)
    (e1 : PySem.W.nsIn K mainGlobals "LineError" = some (some (.ref cLE)))
    (e2 : PySem.W.specialIn K (.ref cLE) "__getattribute__" = some (some (.builtin "type.__getattribute__")))
    (e3 : PySem.W.typeIn K (.ref cLE) = some (.type "type"))
    (e4 : PySem.W.readsIn K cLE (.type "type") = true)
    (e5 : PySem.W.findCls K (.ref cLE) (.type "type") "__init__" = some (.val (.ref fLE)))
    (e6 : PySem.W.keepIn K (.ref fLE) = true)
    (e7 : K.lookup fLE = some ⟨ocLE, odLE, .func (PySem.W.fnOf "__init__" "LineError.__init__" (defArgs i_LineError) (defBody i_LineError) (defScope i_LineError) (.ref dLE) kVLE dcLE pmLE anLE cdLE ctLE), slLE⟩)
    (e8 : PySem.W.codeIn K cdLE "LineError.__init__" = true)
    (e9 : K.lookup dLE = some ⟨.type "tuple", oD, .seq #[.str "LineError" tLe1, .str "refused" tLe2] mD, slD⟩)
    (e10 : PySem.W.findCls K (.type "ValueError") (.type "type") "__init__" = some (.val (.builtin "ValueError.__init__")))
    (z_ValueError : PySem.W.nsIn K mainGlobals "ValueError" = some none)
    (gBadBit : PySem.W.nsIn K mainGlobals "BadBit" = some (some (.ref xBadBit)))
    (gaBadBit : PySem.W.findIn K (.ref xBadBit) "__getattribute__" = some (some (.builtin "BaseException.__getattribute__")))
    (ggBadBit : PySem.W.findIn K (.ref xBadBit) "__getattr__" = some none)
    (exBadBit : PySem.W.subIn K (.ref xBadBit) (.type "BaseException") = some true)
    (hdBadBit : PySem.W.hasDictIn K xBadBit = true)
    (noBadBit : PySem.W.findIn K (.ref xBadBit) "at" = some none)
    (gBadFrame : PySem.W.nsIn K mainGlobals "BadFrame" = some (some (.ref xBadFrame)))
    (gaBadFrame : PySem.W.findIn K (.ref xBadFrame) "__getattribute__" = some (some (.builtin "BaseException.__getattribute__")))
    (ggBadFrame : PySem.W.findIn K (.ref xBadFrame) "__getattr__" = some none)
    (exBadFrame : PySem.W.subIn K (.ref xBadFrame) (.type "BaseException") = some true)
    (hdBadFrame : PySem.W.hasDictIn K xBadFrame = true)
    (noBadFrame : PySem.W.findIn K (.ref xBadFrame) "at" = some none)
    (gBadCount : PySem.W.nsIn K mainGlobals "BadCount" = some (some (.ref xBadCount)))
    (gaBadCount : PySem.W.findIn K (.ref xBadCount) "__getattribute__" = some (some (.builtin "BaseException.__getattribute__")))
    (ggBadCount : PySem.W.findIn K (.ref xBadCount) "__getattr__" = some none)
    (exBadCount : PySem.W.subIn K (.ref xBadCount) (.type "BaseException") = some true)
    (hdBadCount : PySem.W.hasDictIn K xBadCount = true)
    (gBadRate : PySem.W.nsIn K mainGlobals "BadRate" = some (some (.ref xBadRate)))
    (gaBadRate : PySem.W.findIn K (.ref xBadRate) "__getattribute__" = some (some (.builtin "BaseException.__getattribute__")))
    (ggBadRate : PySem.W.findIn K (.ref xBadRate) "__getattr__" = some none)
    (exBadRate : PySem.W.subIn K (.ref xBadRate) (.type "BaseException") = some true)
    (hdBadRate : PySem.W.hasDictIn K xBadRate = true)
    (gBadTaps : PySem.W.nsIn K mainGlobals "BadTaps" = some (some (.ref xBadTaps)))
    (gaBadTaps : PySem.W.findIn K (.ref xBadTaps) "__getattribute__" = some (some (.builtin "BaseException.__getattribute__")))
    (ggBadTaps : PySem.W.findIn K (.ref xBadTaps) "__getattr__" = some none)
    (exBadTaps : PySem.W.subIn K (.ref xBadTaps) (.type "BaseException") = some true)
    (hdBadTaps : PySem.W.hasDictIn K xBadTaps = true)
    (gBadNoise : PySem.W.nsIn K mainGlobals "BadNoise" = some (some (.ref xBadNoise)))
    (gaBadNoise : PySem.W.findIn K (.ref xBadNoise) "__getattribute__" = some (some (.builtin "BaseException.__getattribute__")))
    (ggBadNoise : PySem.W.findIn K (.ref xBadNoise) "__getattr__" = some none)
    (exBadNoise : PySem.W.subIn K (.ref xBadNoise) (.type "BaseException") = some true)
    (hdBadNoise : PySem.W.hasDictIn K xBadNoise = true)
    (gMissing : PySem.W.nsIn K mainGlobals "Missing" = some (some (.ref xMissing)))
    (mBLineBadCount : PySem.W.exmOne K (.ref xBadCount) (.ref cLE) = some true)
    (mBLineBadTaps : PySem.W.exmOne K (.ref xBadTaps) (.ref cLE) = some true)
    (mB_BadFrame_BadFrame : PySem.W.exmOne K (.ref xBadFrame) (.ref xBadFrame) = some true)
    (o1BadBit : K.lookup xBadBit = some (excClassObj nmBadBit qBadBit xBadBit NBadBit bsBadBit bmBadBit true snBadBit subBadBit abBadBit colBadBit ddBadBit kaBadBit kbBadBit kcBadBit kdBadBit keBadBit "ValueError.__new__"))
    (o2BadBit : PySem.HandSPX.refsVE bmBadBit = true)
    (o3BadBit : PySem.W.findIn K (.ref xBadBit) "__setattr__" = some (some (.builtin "object.__setattr__")))
    (o4BadBit : PySem.W.typeIn K (.ref xBadBit) = some (.type "type"))
    (o5BadBit : PySem.W.keepIn K (.ref xBadBit) = true)
    (o6BadBit : PySem.W.findIn K (.ref xBadBit) "__init__" = some (some (.ref fIBadBit)))
    (o7BadBit : PySem.W.typeIn K (.ref fIBadBit) = some (.type "function"))
    (o8BadBit : K.lookup fIBadBit = some ⟨ocBadBit, odBadBit, .func (PySem.W.fnOf "__init__" "BadBit.__init__" (defArgs i_BadBit) (defBody i_BadBit) (defScope i_BadBit) .none kVBadBit dcBadBit pmBadBit anBadBit cdBadBit ctBadBit), slBadBit⟩)
    (o9BadBit : PySem.W.codeIn K cdBadBit "BadBit.__init__" = true)
    (p1BadBit : PySem.W.keepIn K (.ref fIBadBit) = true)
    (p2BadBit : PySem.W.findIn K (.ref xBadBit) "word" = some none)
    (o1BadFrame : K.lookup xBadFrame = some (excClassObj nmBadFrame qBadFrame xBadFrame NBadFrame bsBadFrame bmBadFrame true snBadFrame subBadFrame abBadFrame colBadFrame ddBadFrame kaBadFrame kbBadFrame kcBadFrame kdBadFrame keBadFrame "ValueError.__new__"))
    (o2BadFrame : PySem.HandSPX.refsVE bmBadFrame = true)
    (o3BadFrame : PySem.W.findIn K (.ref xBadFrame) "__setattr__" = some (some (.builtin "object.__setattr__")))
    (o4BadFrame : PySem.W.typeIn K (.ref xBadFrame) = some (.type "type"))
    (o5BadFrame : PySem.W.keepIn K (.ref xBadFrame) = true)
    (o6BadFrame : PySem.W.findIn K (.ref xBadFrame) "__init__" = some (some (.ref fIBadFrame)))
    (o7BadFrame : PySem.W.typeIn K (.ref fIBadFrame) = some (.type "function"))
    (o8BadFrame : K.lookup fIBadFrame = some ⟨ocBadFrame, odBadFrame, .func (PySem.W.fnOf "__init__" "BadFrame.__init__" (defArgs i_BadFrame) (defBody i_BadFrame) (defScope i_BadFrame) .none kVBadFrame dcBadFrame pmBadFrame anBadFrame cdBadFrame ctBadFrame), slBadFrame⟩)
    (o9BadFrame : PySem.W.codeIn K cdBadFrame "BadFrame.__init__" = true)
    (p1BadFrame : PySem.W.keepIn K (.ref fIBadFrame) = true)
    (p2BadFrame : PySem.W.findIn K (.ref xBadFrame) "word" = some none)
    (o1BadCount : K.lookup xBadCount = some (excClassObj nmBadCount qBadCount xBadCount NBadCount bsBadCount bmBadCount true snBadCount subBadCount abBadCount colBadCount ddBadCount kaBadCount kbBadCount kcBadCount kdBadCount keBadCount "ValueError.__new__"))
    (o2BadCount : PySem.HandSPX.refsVE bmBadCount = true)
    (o3BadCount : PySem.W.findIn K (.ref xBadCount) "__setattr__" = some (some (.builtin "object.__setattr__")))
    (o4BadCount : PySem.W.typeIn K (.ref xBadCount) = some (.type "type"))
    (o5BadCount : PySem.W.keepIn K (.ref xBadCount) = true)
    (o6BadCount : PySem.W.findIn K (.ref xBadCount) "__init__" = some (some (.ref fIBadCount)))
    (o7BadCount : PySem.W.typeIn K (.ref fIBadCount) = some (.type "function"))
    (o8BadCount : K.lookup fIBadCount = some ⟨ocBadCount, odBadCount, .func (PySem.W.fnOf "__init__" "BadCount.__init__" (defArgs i_BadCount) (defBody i_BadCount) (defScope i_BadCount) .none kVBadCount dcBadCount pmBadCount anBadCount cdBadCount ctBadCount), slBadCount⟩)
    (o9BadCount : PySem.W.codeIn K cdBadCount "BadCount.__init__" = true)
    (p1BadCount : PySem.W.keepIn K (.ref fIBadCount) = true)
    (p2BadCount : PySem.W.findIn K (.ref xBadCount) "word" = some none)
    (o1BadRate : K.lookup xBadRate = some (excClassObj nmBadRate qBadRate xBadRate NBadRate bsBadRate bmBadRate true snBadRate subBadRate abBadRate colBadRate ddBadRate kaBadRate kbBadRate kcBadRate kdBadRate keBadRate "ValueError.__new__"))
    (o2BadRate : PySem.HandSPX.refsVE bmBadRate = true)
    (o3BadRate : PySem.W.findIn K (.ref xBadRate) "__setattr__" = some (some (.builtin "object.__setattr__")))
    (o4BadRate : PySem.W.typeIn K (.ref xBadRate) = some (.type "type"))
    (o5BadRate : PySem.W.keepIn K (.ref xBadRate) = true)
    (o6BadRate : PySem.W.findIn K (.ref xBadRate) "__init__" = some (some (.ref fIBadRate)))
    (o7BadRate : PySem.W.typeIn K (.ref fIBadRate) = some (.type "function"))
    (o8BadRate : K.lookup fIBadRate = some ⟨ocBadRate, odBadRate, .func (PySem.W.fnOf "__init__" "BadRate.__init__" (defArgs i_BadRate) (defBody i_BadRate) (defScope i_BadRate) .none kVBadRate dcBadRate pmBadRate anBadRate cdBadRate ctBadRate), slBadRate⟩)
    (o9BadRate : PySem.W.codeIn K cdBadRate "BadRate.__init__" = true)
    (p1BadRate : PySem.W.keepIn K (.ref fIBadRate) = true)
    (p2BadRate : PySem.W.findIn K (.ref xBadRate) "word" = some none)
    (o1BadTaps : K.lookup xBadTaps = some (excClassObj nmBadTaps qBadTaps xBadTaps NBadTaps bsBadTaps bmBadTaps true snBadTaps subBadTaps abBadTaps colBadTaps ddBadTaps kaBadTaps kbBadTaps kcBadTaps kdBadTaps keBadTaps "ValueError.__new__"))
    (o2BadTaps : PySem.HandSPX.refsVE bmBadTaps = true)
    (o3BadTaps : PySem.W.findIn K (.ref xBadTaps) "__setattr__" = some (some (.builtin "object.__setattr__")))
    (o4BadTaps : PySem.W.typeIn K (.ref xBadTaps) = some (.type "type"))
    (o5BadTaps : PySem.W.keepIn K (.ref xBadTaps) = true)
    (o6BadTaps : PySem.W.findIn K (.ref xBadTaps) "__init__" = some (some (.ref fIBadTaps)))
    (o7BadTaps : PySem.W.typeIn K (.ref fIBadTaps) = some (.type "function"))
    (o8BadTaps : K.lookup fIBadTaps = some ⟨ocBadTaps, odBadTaps, .func (PySem.W.fnOf "__init__" "BadTaps.__init__" (defArgs i_BadTaps) (defBody i_BadTaps) (defScope i_BadTaps) .none kVBadTaps dcBadTaps pmBadTaps anBadTaps cdBadTaps ctBadTaps), slBadTaps⟩)
    (o9BadTaps : PySem.W.codeIn K cdBadTaps "BadTaps.__init__" = true)
    (p1BadTaps : PySem.W.keepIn K (.ref fIBadTaps) = true)
    (p2BadTaps : PySem.W.findIn K (.ref xBadTaps) "word" = some none)
    (o1BadNoise : K.lookup xBadNoise = some (excClassObj nmBadNoise qBadNoise xBadNoise NBadNoise bsBadNoise bmBadNoise true snBadNoise subBadNoise abBadNoise colBadNoise ddBadNoise kaBadNoise kbBadNoise kcBadNoise kdBadNoise keBadNoise "ValueError.__new__"))
    (o2BadNoise : PySem.HandSPX.refsVE bmBadNoise = true)
    (o3BadNoise : PySem.W.findIn K (.ref xBadNoise) "__setattr__" = some (some (.builtin "object.__setattr__")))
    (o4BadNoise : PySem.W.typeIn K (.ref xBadNoise) = some (.type "type"))
    (o5BadNoise : PySem.W.keepIn K (.ref xBadNoise) = true)
    (o6BadNoise : PySem.W.findIn K (.ref xBadNoise) "__init__" = some (some (.ref fIBadNoise)))
    (o7BadNoise : PySem.W.typeIn K (.ref fIBadNoise) = some (.type "function"))
    (o8BadNoise : K.lookup fIBadNoise = some ⟨ocBadNoise, odBadNoise, .func (PySem.W.fnOf "__init__" "BadNoise.__init__" (defArgs i_BadNoise) (defBody i_BadNoise) (defScope i_BadNoise) .none kVBadNoise dcBadNoise pmBadNoise anBadNoise cdBadNoise ctBadNoise), slBadNoise⟩)
    (o9BadNoise : PySem.W.codeIn K cdBadNoise "BadNoise.__init__" = true)
    (p1BadNoise : PySem.W.keepIn K (.ref fIBadNoise) = true)
    (p2BadNoise : PySem.W.findIn K (.ref xBadNoise) "word" = some none)
    (z_enumerate : PySem.W.nsIn K mainGlobals "enumerate" = some none)
    (z_len : PySem.W.nsIn K mainGlobals "len" = some none)
    (z_range : PySem.W.nsIn K mainGlobals "range" = some none)
    (z_list : PySem.W.nsIn K mainGlobals "list" = some none)
    (z_tuple : PySem.W.nsIn K mainGlobals "tuple" = some none)
    (z_abs : PySem.W.nsIn K mainGlobals "abs" = some none)
    (z_min : PySem.W.nsIn K mainGlobals "min" = some none)
    (z_reversed : PySem.W.nsIn K mainGlobals "reversed" = some none)
    (z_sum : PySem.W.nsIn K mainGlobals "sum" = some none)
    (z_zip : PySem.W.nsIn K mainGlobals "zip" = some none)
    (z_isinstance : PySem.W.nsIn K mainGlobals "isinstance" = some none)
    (z_all : PySem.W.nsIn K mainGlobals "all" = some none)
    (z_bool : PySem.W.nsIn K mainGlobals "bool" = some none)
    (z_int : PySem.W.nsIn K mainGlobals "int" = some none)
    (z_str : PySem.W.nsIn K mainGlobals "str" = some none)
    (q_MOST_BITS : PySem.W.nsIn K mainGlobals "MOST_BITS" = some (some (.int 64 t_MOST_BITS)))
    (q_MEMORY_BITS : PySem.W.nsIn K mainGlobals "MEMORY_BITS" = some (some (.int 7 t_MEMORY_BITS)))
    (q_FOURTH : PySem.W.nsIn K mainGlobals "FOURTH" = some (some (.int 3 t_FOURTH)))
    (q_SEVENTH : PySem.W.nsIn K mainGlobals "SEVENTH" = some (some (.int 6 t_SEVENTH)))
    (q_SEAL : PySem.W.nsIn K mainGlobals "SEAL" = some (some (.int 16 t_SEAL)))
    (q_TURNED : PySem.W.nsIn K mainGlobals "TURNED" = some (some (.ref a_TURNED)))
    (w_TURNED : K.lookup a_TURNED = some ⟨.type "tuple", o_TURNED, .seq #[.int 3 t_TURNED0, .int 10 t_TURNED1, .int 15 t_TURNED2] m_TURNED, sl_TURNED⟩)
    (q_MOST_ONES : PySem.W.nsIn K mainGlobals "MOST_ONES" = some (some (.int 5 t_MOST_ONES)))
    (q_LONGEST : PySem.W.nsIn K mainGlobals "LONGEST" = some (some (.int 256 t_LONGEST)))
    (q_MARK : PySem.W.nsIn K mainGlobals "MARK" = some (some (.ref a_MARK)))
    (w_MARK : K.lookup a_MARK = some ⟨.type "tuple", o_MARK, .seq #[.int 0 t_MARK0, .int 1 t_MARK1, .int 1 t_MARK2, .int 1 t_MARK3, .int 1 t_MARK4, .int 1 t_MARK5, .int 1 t_MARK6, .int 0 t_MARK7] m_MARK, sl_MARK⟩)
    (q_RING : PySem.W.nsIn K mainGlobals "RING" = some (some (.int 256 t_RING)))
    (q_RATES : PySem.W.nsIn K mainGlobals "RATES" = some (some (.ref a_RATES)))
    (w_RATES : K.lookup a_RATES = some ⟨.type "tuple", o_RATES, .seq #[.int 1 t_RATES0, .int 2 t_RATES1, .int 3 t_RATES2, .int 4 t_RATES3] m_RATES, sl_RATES⟩)
    (q_FEWEST_POINTS : PySem.W.nsIn K mainGlobals "FEWEST_POINTS" = some (some (.int 4 t_FEWEST_POINTS)))
    (q_MOST_SHARES : PySem.W.nsIn K mainGlobals "MOST_SHARES" = some (some (.int 4 t_MOST_SHARES)))
    (q_GREATEST_SHARE : PySem.W.nsIn K mainGlobals "GREATEST_SHARE" = some (some (.int 3 t_GREATEST_SHARE)))
    (q_TAIL : PySem.W.nsIn K mainGlobals "TAIL" = some (some (.int 2 t_TAIL)))
    (q_DATA : PySem.W.nsIn K mainGlobals "DATA" = some (some (.int 16 t_DATA)))
    (q_MOST_QUEUE : PySem.W.nsIn K mainGlobals "MOST_QUEUE" = some (some (.int 2000 t_MOST_QUEUE)))
    (q_MOST_OPEN : PySem.W.nsIn K mainGlobals "MOST_OPEN" = some (some (.int 400 t_MOST_OPEN)))
    (q_STATES : PySem.W.nsIn K mainGlobals "STATES" = some (some (.int 4 t_STATES)))
    (q_BURST : PySem.W.nsIn K mainGlobals "BURST" = some (some (.int 18 t_BURST))) :
    LamX.LawAtS l w K CX0 15 63 "_law_script" mg fa h := by
  have e := hfa.symm.trans (PySem.W.mg_of X G a64)
  cases e
  have F0 := fun_mk (st := s_check_bits) l0 c0 k0
  have b0 := F0.binds (ps := ["bits"]) fun _ _ _ _ _ _ us hl => match us, hl with | [_], _ => rfl
  have F1 := fun_mk (st := s_bits_number) l1 c1 k1
  have b1 := F1.binds (ps := ["bits"]) fun _ _ _ _ _ _ us hl => match us, hl with | [_], _ => rfl
  have F2 := fun_mk (st := s_number_bits) l2 c2 k2
  have b2 := F2.binds (ps := ["number", "many"]) fun _ _ _ _ _ _ us hl => match us, hl with | [_, _], _ => rfl
  have F3 := fun_mk (st := s_moved_on) l3 c3 k3
  have b3 := F3.binds (ps := ["cells", "bit"]) fun _ _ _ _ _ _ us hl => match us, hl with | [_, _], _ => rfl
  have F4 := fun_mk (st := s_seal_of) l4 c4 k4
  have b4 := F4.binds (ps := ["bits"]) fun _ _ _ _ _ _ us hl => match us, hl with | [_], _ => rfl
  have F5 := fun_mk (st := s_holds) l5 c5 k5
  have b5 := F5.binds (ps := ["bits"]) fun _ _ _ _ _ _ us hl => match us, hl with | [_], _ => rfl
  have F6 := fun_mk (st := s_unstuffed) l6 c6 k6
  have b6 := F6.binds (ps := ["bits"]) fun _ _ _ _ _ _ us hl => match us, hl with | [_], _ => rfl
  have F7 := fun_mk (st := s_payload_between) l7 c7 k7
  have b7 := F7.binds (ps := ["bits"]) fun _ _ _ _ _ _ us hl => match us, hl with | [_], _ => rfl
  have F8 := fun_mk (st := m_Reader___init__) l8 c8 k8
  have b8 := F8.binds (ps := ["self"]) fun _ _ _ _ _ _ us hl => match us, hl with | [_], _ => rfl
  have F9 := fun_mk (st := m_Reader_pass_mark) l9 c9 k9
  have b9 := F9.binds (ps := ["self"]) fun _ _ _ _ _ _ us hl => match us, hl with | [_], _ => rfl
  have F10 := fun_mk (st := m_Reader_take_bit) l10 c10 k10
  have b10 := F10.binds (ps := ["self", "bit"]) fun _ _ _ _ _ _ us hl => match us, hl with | [_, _], _ => rfl
  have F11 := fun_mk (st := m_Reader_take) l11 c11 k11
  have b11 := F11.binds (ps := ["self", "bits"]) fun _ _ _ _ _ _ us hl => match us, hl with | [_, _], _ => rfl
  have F12 := fun_mk (st := m_Reader_hurt) l12 c12 k12
  have b12 := F12.binds (ps := ["self"]) fun _ _ _ _ _ _ us hl => match us, hl with | [_], _ => rfl
  have F13 := fun_mk (st := s_check_rate) l13 c13 k13
  have b13 := F13.binds (ps := ["rate"]) fun _ _ _ _ _ _ us hl => match us, hl with | [_], _ => rfl
  have F14 := fun_mk (st := s_folded) l14 c14 k14
  have b14 := F14.binds (ps := ["number"]) fun _ _ _ _ _ _ us hl => match us, hl with | [_], _ => rfl
  have F15 := fun_mk (st := s_apart) l15 c15 k15
  have b15 := F15.binds (ps := ["one", "other"]) fun _ _ _ _ _ _ us hl => match us, hl with | [_, _], _ => rfl
  have F16 := fun_mk (st := s_points_at) l16 c16 k16
  have b16 := F16.binds (ps := ["rate"]) fun _ _ _ _ _ _ us hl => match us, hl with | [_], _ => rfl
  have F17 := fun_mk (st := s_step) l17 c17 k17
  have b17 := F17.binds (ps := ["rate"]) fun _ _ _ _ _ _ us hl => match us, hl with | [_], _ => rfl
  have F18 := funD_one (x := "point") (qual := "point") (params := defArgs s_point) (body := defBody s_point) (scope := defScope s_point) (y := "rate") (v := .int 1) l18 c18 k18 v18 ⟨_, rfl⟩
  have F19 := fun_mk (st := s_moved) l19 c19 k19
  have b19 := F19.binds (ps := ["state", "first"]) fun _ _ _ _ _ _ us hl => match us, hl with | [_, _], _ => rfl
  have F20 := fun_mk (st := s_class_of) l20 c20 k20
  have b20 := F20.binds (ps := ["state", "first"]) fun _ _ _ _ _ _ us hl => match us, hl with | [_, _], _ => rfl
  have F21 := funD_one (x := "coded") (qual := "coded") (params := defArgs s_coded) (body := defBody s_coded) (scope := defScope s_coded) (y := "rate") (v := .int 1) l21 c21 k21 v21 ⟨_, rfl⟩
  have F22 := fun_mk (st := s_nearest_of_class) l22 c22 k22
  have b22 := F22.binds (ps := ["number", "low", "rate"]) fun _ _ _ _ _ _ us hl => match us, hl with | [_, _, _], _ => rfl
  have F23 := fun_mk (st := s_onward) l23 c23 k23
  have b23 := F23.binds (ps := ["state", "first", "classes", "costs"]) fun _ _ _ _ _ _ us hl => match us, hl with | [_, _, _, _], _ => rfl
  have F24 := fun_mk (st := s_best_of_beat) l24 c24 k24
  have b24 := F24.binds (ps := ["number", "costs", "rate"]) fun _ _ _ _ _ _ us hl => match us, hl with | [_, _, _], _ => rfl
  have F25 := fun_mk (st := s_tail_costs) l25 c25 k25
  have b25 := F25.binds (ps := ["heard", "rate"]) fun _ _ _ _ _ _ us hl => match us, hl with | [_, _], _ => rfl
  have F26 := fun_mk (st := s_bits_along) l26 c26 k26
  have b26 := F26.binds (ps := ["beats", "rate"]) fun _ _ _ _ _ _ us hl => match us, hl with | [_, _], _ => rfl
  have F27 := funD_one (x := "heard_path") (qual := "heard_path") (params := defArgs s_heard_path) (body := defBody s_heard_path) (scope := defScope s_heard_path) (y := "rate") (v := .int 1) l27 c27 k27 v27 ⟨_, rfl⟩
  have F28 := fun_mk (st := s_pushed_through) l28 c28 k28
  have b28 := F28.binds (ps := ["cells", "bits", "keeps_out"]) fun _ _ _ _ _ _ us hl => match us, hl with | [_, _, _], _ => rfl
  have F29 := funD_one (x := "__init__") (qual := "Scrambler.__init__") (params := defArgs m_Scrambler___init__) (body := defBody m_Scrambler___init__) (scope := defScope m_Scrambler___init__) (y := "seed") (v := .int 0) l29 c29 k29 v29 ⟨_, rfl⟩
  have F30 := fun_mk (st := m_Scrambler_push) l30 c30 k30
  have b30 := F30.binds (ps := ["self", "bits"]) fun _ _ _ _ _ _ us hl => match us, hl with | [_, _], _ => rfl
  have F31 := fun_mk (st := m_Scrambler_memory) l31 c31 k31
  have b31 := F31.binds (ps := ["self"]) fun _ _ _ _ _ _ us hl => match us, hl with | [_], _ => rfl
  have F32 := funD_one (x := "__init__") (qual := "Descrambler.__init__") (params := defArgs m_Descrambler___init__) (body := defBody m_Descrambler___init__) (scope := defScope m_Descrambler___init__) (y := "seed") (v := .int 0) l32 c32 k32 v32 ⟨_, rfl⟩
  have F33 := fun_mk (st := m_Descrambler_push) l33 c33 k33
  have b33 := F33.binds (ps := ["self", "bits"]) fun _ _ _ _ _ _ us hl => match us, hl with | [_, _], _ => rfl
  have F34 := fun_mk (st := m_Descrambler_memory) l34 c34 k34
  have b34 := F34.binds (ps := ["self"]) fun _ _ _ _ _ _ us hl => match us, hl with | [_], _ => rfl
  have F35 := fun_mk (st := s_without_last_noughts) l35 c35 k35
  have b35 := F35.binds (ps := ["numbers"]) fun _ _ _ _ _ _ us hl => match us, hl with | [_], _ => rfl
  have F36 := fun_mk (st := s_right_shares) l36 c36 k36
  have b36 := F36.binds (ps := ["numbers"]) fun _ _ _ _ _ _ us hl => match us, hl with | [_], _ => rfl
  have F37 := fun_mk (st := s_left_behind) l37 c37 k37
  have b37 := F37.binds (ps := ["shares", "tones"]) fun _ _ _ _ _ _ us hl => match us, hl with | [_, _], _ => rfl
  have F38 := fun_mk (st := s_no_tones) l38 c38 k38
  have b38 := F38.binds (ps := []) fun _ _ _ _ _ _ us hl => match us, hl with | [], _ => rfl
  have F39 := fun_mk (st := s_with_latest) l39 c39 k39
  have b39 := F39.binds (ps := ["tone", "tones"]) fun _ _ _ _ _ _ us hl => match us, hl with | [_, _], _ => rfl
  have F40 : FunD K "__init__" "Shaper.__init__" (defArgs m_Shaper___init__) (defBody m_Shaper___init__) (defScope m_Shaper___init__) [.ref e40_0] [] f40 _ := ⟨⟨_, _, _, _, _, _, _, _, _, _, rfl, l40, c40, .inr ⟨by simp, dT40, _, _, _, rfl, pd40, rfl, .cons rfl (.nil)⟩, .inl rfl⟩, k40⟩
  have h_e40_0 : ∀ H, SqT K H e40_0 [] := fun H => .inr ⟨_, _, _, w_e40_0, rfl, rfl, (by show 0 ≤ sizeLine; decide), .nil⟩
  have F41 := fun_mk (st := m_Shaper_say) l41 c41 k41
  have b41 := F41.binds (ps := ["self", "value"]) fun _ _ _ _ _ _ us hl => match us, hl with | [_, _], _ => rfl
  have F42 := fun_mk (st := m_Shaper_past) l42 c42 k42
  have b42 := F42.binds (ps := ["self"]) fun _ _ _ _ _ _ us hl => match us, hl with | [_], _ => rfl
  have F43 := fun_mk (st := s_burst_bits) l43 c43 k43
  have b43 := F43.binds (ps := ["rate"]) fun _ _ _ _ _ _ us hl => match us, hl with | [_], _ => rfl
  have F44 : FunD K "__init__" "Mouth.__init__" (defArgs m_Mouth___init__) (defBody m_Mouth___init__) (defScope m_Mouth___init__) [.ref e44_0] [("rate", .int 1), ("seed", .int 0)] f44 _ := ⟨⟨_, _, _, _, _, _, _, _, _, _, rfl, l44, c44, .inr ⟨by simp, dT44, _, _, _, rfl, pd44, rfl, .cons rfl (.nil)⟩, .inr ⟨D44, rfl, by
    intro q hq
    simp only [List.mem_cons, List.not_mem_nil, or_false] at hq
    rcases hq with rfl | rfl
    · exact ⟨_, v44_0, ⟨_, rfl⟩⟩
    · exact ⟨_, v44_1, ⟨_, rfl⟩⟩⟩⟩, k44⟩
  have h_e44_0 : ∀ H, SqT K H e44_0 [] := fun H => .inr ⟨_, _, _, w_e44_0, rfl, rfl, (by show 0 ≤ sizeLine; decide), .nil⟩
  have F45 := fun_mk (st := m_Mouth_burst) l45 c45 k45
  have b45 := F45.binds (ps := ["self"]) fun _ _ _ _ _ _ us hl => match us, hl with | [_], _ => rfl
  have F46 := fun_mk (st := s_check_burst) l46 c46 k46
  have b46 := F46.binds (ps := ["numbers"]) fun _ _ _ _ _ _ us hl => match us, hl with | [_], _ => rfl
  have F47 : FunD K "__init__" "Ear.__init__" (defArgs m_Ear___init__) (defBody m_Ear___init__) (defScope m_Ear___init__) [.ref e47_0] [("rate", .int 1), ("seed", .int 0)] f47 _ := ⟨⟨_, _, _, _, _, _, _, _, _, _, rfl, l47, c47, .inr ⟨by simp, dT47, _, _, _, rfl, pd47, rfl, .cons rfl (.nil)⟩, .inr ⟨D47, rfl, by
    intro q hq
    simp only [List.mem_cons, List.not_mem_nil, or_false] at hq
    rcases hq with rfl | rfl
    · exact ⟨_, v47_0, ⟨_, rfl⟩⟩
    · exact ⟨_, v47_1, ⟨_, rfl⟩⟩⟩⟩, k47⟩
  have h_e47_0 : ∀ H, SqT K H e47_0 [] := fun H => .inr ⟨_, _, _, w_e47_0, rfl, rfl, (by show 0 ≤ sizeLine; decide), .nil⟩
  have F48 := fun_mk (st := m_Ear_hear) l48 c48 k48
  have b48 := F48.binds (ps := ["self", "heard", "own"]) fun _ _ _ _ _ _ us hl => match us, hl with | [_, _, _], _ => rfl
  have F49 := fun_mk (st := m_Ear_hurt) l49 c49 k49
  have b49 := F49.binds (ps := ["self"]) fun _ _ _ _ _ _ us hl => match us, hl with | [_], _ => rfl
  have F50 : FunD K "__init__" "Wire.__init__" (defArgs m_Wire___init__) (defBody m_Wire___init__) (defScope m_Wire___init__) [] [("forth", .ref e50_10), ("back", .ref e50_11), ("near", .ref e50_12), ("far", .ref e50_13)] f50 _ := ⟨⟨_, _, _, _, _, _, _, _, _, _, rfl, l50, c50, .inl ⟨rfl, rfl⟩, .inr ⟨D50, rfl, by
    intro q hq
    simp only [List.mem_cons, List.not_mem_nil, or_false] at hq
    rcases hq with rfl | rfl | rfl | rfl
    · exact ⟨_, v50_0, rfl⟩
    · exact ⟨_, v50_1, rfl⟩
    · exact ⟨_, v50_2, rfl⟩
    · exact ⟨_, v50_3, rfl⟩⟩⟩, k50⟩
  have h_e50_10 : ∀ H, SqT K H e50_10 [] := fun H => .inr ⟨_, _, _, w_e50_10, rfl, rfl, (by show 0 ≤ sizeLine; decide), .nil⟩
  have h_e50_11 : ∀ H, SqT K H e50_11 [] := fun H => .inr ⟨_, _, _, w_e50_11, rfl, rfl, (by show 0 ≤ sizeLine; decide), .nil⟩
  have h_e50_12 : ∀ H, SqT K H e50_12 [] := fun H => .inr ⟨_, _, _, w_e50_12, rfl, rfl, (by show 0 ≤ sizeLine; decide), .nil⟩
  have h_e50_13 : ∀ H, SqT K H e50_13 [] := fun H => .inr ⟨_, _, _, w_e50_13, rfl, rfl, (by show 0 ≤ sizeLine; decide), .nil⟩
  have F51 := fun_mk (st := m_Wire_shares) l51 c51 k51
  have b51 := F51.binds (ps := ["self"]) fun _ _ _ _ _ _ us hl => match us, hl with | [_], _ => rfl
  have F52 := fun_mk (st := m_Wire___eq__) l52 c52 k52
  have b52 := F52.binds (ps := ["self", "other"]) fun _ _ _ _ _ _ us hl => match us, hl with | [_, _], _ => rfl
  have F53 := fun_mk (st := s__law_bag) l53 c53 k53
  have b53 := F53.binds (ps := ["_law_script"]) fun _ _ _ _ _ _ us hl => match us, hl with | [_], _ => rfl
  have F54 := fun_mk (st := s__law_pick) l54 c54 k54
  have b54 := F54.binds (ps := ["_law_bag_here", "_law_top"]) fun _ _ _ _ _ _ us hl => match us, hl with | [_, _], _ => rfl
  have F55 := fun_mk (st := s__law_of) l55 c55 k55
  have b55 := F55.binds (ps := ["_law_bag_here", "_law_some"]) fun _ _ _ _ _ _ us hl => match us, hl with | [_, _], _ => rfl
  have F56 := fun_mk (st := s__law_same) l56 c56 k56
  have b56 := F56.binds (ps := ["_law_found", "_law_due"]) fun _ _ _ _ _ _ us hl => match us, hl with | [_, _], _ => rfl
  have F57 := fun_mk (st := s__law_tried) l57 c57 k57
  have b57 := F57.binds (ps := ["_law_act"]) fun _ _ _ _ _ _ us hl => match us, hl with | [_], _ => rfl
  have F58 := fun_mk (st := s__law_far) l58 c58 k58
  have b58 := F58.binds (ps := ["_law_bag_here"]) fun _ _ _ _ _ _ us hl => match us, hl with | [_], _ => rfl
  have F59 := fun_mk (st := s__law_shares) l59 c59 k59
  have b59 := F59.binds (ps := ["_law_bag_here"]) fun _ _ _ _ _ _ us hl => match us, hl with | [_], _ => rfl
  have F60 := fun_mk (st := s__law_trimmed) l60 c60 k60
  have b60 := F60.binds (ps := ["_law_figures"]) fun _ _ _ _ _ _ us hl => match us, hl with | [_], _ => rfl
  have F61 := fun_mk (st := s__law_tone) l61 c61 k61
  have b61 := F61.binds (ps := ["_law_bag_here"]) fun _ _ _ _ _ _ us hl => match us, hl with | [_], _ => rfl
  have F62 := fun_mk (st := s__law_bad_shares) l62 c62 k62
  have b62 := F62.binds (ps := ["_law_bag_here"]) fun _ _ _ _ _ _ us hl => match us, hl with | [_], _ => rfl
  have F63 := fun_mk (st := s__law_noughts_behind) l63 c63 k63
  have b63 := F63.binds (ps := ["_law_bag_here", "_law_good", "_law_longer"]) fun _ _ _ _ _ _ us hl => match us, hl with | [_, _, _], _ => rfl
  have F64 := fun_mk (st := s_law) l64 c64 k64
  have b64 := F64.binds (ps := ["_law_script"]) fun _ _ _ _ _ _ us hl => match us, hl with | [_], _ => rfl
  have h_TURNED : ∀ H, SqT K H a_TURNED [.int 3, .int 10, .int 15] := fun H => .inr ⟨_, _, _, w_TURNED, rfl, rfl, (by show 3 ≤ sizeLine; decide), .cons ⟨_, rfl⟩ (.cons ⟨_, rfl⟩ (.cons ⟨_, rfl⟩ (.nil)))⟩
  have h_MARK : ∀ H, SqT K H a_MARK [.int 0, .int 1, .int 1, .int 1, .int 1, .int 1, .int 1, .int 0] := fun H => .inr ⟨_, _, _, w_MARK, rfl, rfl, (by show 8 ≤ sizeLine; decide), .cons ⟨_, rfl⟩ (.cons ⟨_, rfl⟩ (.cons ⟨_, rfl⟩ (.cons ⟨_, rfl⟩ (.cons ⟨_, rfl⟩ (.cons ⟨_, rfl⟩ (.cons ⟨_, rfl⟩ (.cons ⟨_, rfl⟩ (.nil))))))))⟩
  have h_RATES : ∀ H, SqT K H a_RATES [.int 1, .int 2, .int 3, .int 4] := fun H => .inr ⟨_, _, _, w_RATES, rfl, rfl, (by show 4 ≤ sizeLine; decide), .cons ⟨_, rfl⟩ (.cons ⟨_, rfl⟩ (.cons ⟨_, rfl⟩ (.cons ⟨_, rfl⟩ (.nil))))⟩
  have clsReader : Cls K cReader := ⟨r2Reader, r3Reader, r4Reader, r5Reader⟩
  have R_Reader : RdC K cReader := ⟨clsReader, r_Reader_last, r_Reader_behind, r_Reader_spoilt⟩
  have clsScrambler : Cls K cScrambler := ⟨r2Scrambler, r3Scrambler, r4Scrambler, r5Scrambler⟩
  have R_Scrambler : ScC K cScrambler := ⟨clsScrambler, r_Scrambler_cells⟩
  have clsDescrambler : Cls K cDescrambler := ⟨r2Descrambler, r3Descrambler, r4Descrambler, r5Descrambler⟩
  have R_Descrambler : ScC K cDescrambler := ⟨clsDescrambler, r_Descrambler_cells⟩
  have clsShaper : Cls K cShaper := ⟨r2Shaper, r3Shaper, r4Shaper, r5Shaper⟩
  have R_Shaper : ShC K cShaper := ⟨clsShaper, r_Shaper_taps, r_Shaper_tones⟩
  have clsMouth : Cls K cMouth := ⟨r2Mouth, r3Mouth, r4Mouth, r5Mouth⟩
  have R_Mouth : MoC K cMouth := ⟨clsMouth, r_Mouth_speed, r_Mouth_shaper, r_Mouth_scrambler, r_Mouth_queue⟩
  have clsEar : Cls K cEar := ⟨r2Ear, r3Ear, r4Ear, r5Ear⟩
  have R_Ear : ErC K cEar := ⟨clsEar, r_Ear_speed, r_Ear_taps, r_Ear_descrambler, r_Ear_reader, r_Ear_tones, r_Ear_unsure⟩
  have clsWire : Cls K cWire := ⟨r2Wire, r3Wire, r4Wire, r5Wire⟩
  have R_Wire : WrC K cWire := ⟨clsWire, r_Wire_four, r_Wire_one_tones, r_Wire_other_tones⟩
  have IS_Wire : IsiC K cWire := ⟨is1_Wire, is2_Wire, is3_Wire, mr_Wire, is5_Wire⟩
  have FD : FunD K "__init__" "LineError.__init__" (defArgs i_LineError) (defBody i_LineError) (defScope i_LineError) [.str "LineError", .str "refused"] [] fLE (PySem.W.fnOf "__init__" "LineError.__init__" (defArgs i_LineError) (defBody i_LineError) (defScope i_LineError) (.ref dLE) kVLE dcLE pmLE anLE cdLE ctLE) := ⟨⟨_, _, _, _, _, _, _, _, _, _, rfl, e7, e8, .inr ⟨by simp, dLE, _, _, _, rfl, e9, rfl, .cons ⟨_, rfl⟩ (.cons ⟨_, rfl⟩ .nil)⟩, .inl rfl⟩, e6⟩
  have bLE : Binds K (PySem.W.fnOf "__init__" "LineError.__init__" (defArgs i_LineError) (defBody i_LineError) (defScope i_LineError) (.ref dLE) kVLE dcLE pmLE anLE cdLE ctLE) ["self", "word", "text"] [] := by
    obtain ⟨ds, r, hb⟩ := FD.binds1 (ps := ["self", "word", "text"]) 3 2 (by simp) rfl (fun T kV doc pm an cdv ct us its hu hi => match us, its, hu, hi with | [_, _, _], [_, _], _, _ => ⟨_, rfl, rfl⟩)
    cases r
    exact hb
  have TL : ClsFn K mg "LineError" "__init__" cLE fLE := ⟨PySem.W.mg_of X G e1, e2, e3, e4, e5, rfl, e6⟩
  have OBadBit : OexC K xBadBit := ⟨⟨_, _, _, _, _, _, _, _, _, _, _, _, _, _, _, o1BadBit, o2BadBit⟩, o3BadBit, exBadBit, o4BadBit, o5BadBit⟩
  have FIBadBit := fun_mk (st := i_BadBit) o8BadBit o9BadBit p1BadBit
  have bIBadBit := FIBadBit.binds (ps := ["self", "at"]) fun _ _ _ _ _ _ us hl => match us, hl with | [_, _], _ => rfl
  have OBadFrame : OexC K xBadFrame := ⟨⟨_, _, _, _, _, _, _, _, _, _, _, _, _, _, _, o1BadFrame, o2BadFrame⟩, o3BadFrame, exBadFrame, o4BadFrame, o5BadFrame⟩
  have FIBadFrame := fun_mk (st := i_BadFrame) o8BadFrame o9BadFrame p1BadFrame
  have bIBadFrame := FIBadFrame.binds (ps := ["self", "at"]) fun _ _ _ _ _ _ us hl => match us, hl with | [_, _], _ => rfl
  have OBadCount : OexC K xBadCount := ⟨⟨_, _, _, _, _, _, _, _, _, _, _, _, _, _, _, o1BadCount, o2BadCount⟩, o3BadCount, exBadCount, o4BadCount, o5BadCount⟩
  have FIBadCount := fun_mk (st := i_BadCount) o8BadCount o9BadCount p1BadCount
  have bIBadCount := FIBadCount.binds (ps := ["self"]) fun _ _ _ _ _ _ us hl => match us, hl with | [_], _ => rfl
  have OBadRate : OexC K xBadRate := ⟨⟨_, _, _, _, _, _, _, _, _, _, _, _, _, _, _, o1BadRate, o2BadRate⟩, o3BadRate, exBadRate, o4BadRate, o5BadRate⟩
  have FIBadRate := fun_mk (st := i_BadRate) o8BadRate o9BadRate p1BadRate
  have bIBadRate := FIBadRate.binds (ps := ["self"]) fun _ _ _ _ _ _ us hl => match us, hl with | [_], _ => rfl
  have OBadTaps : OexC K xBadTaps := ⟨⟨_, _, _, _, _, _, _, _, _, _, _, _, _, _, _, o1BadTaps, o2BadTaps⟩, o3BadTaps, exBadTaps, o4BadTaps, o5BadTaps⟩
  have FIBadTaps := fun_mk (st := i_BadTaps) o8BadTaps o9BadTaps p1BadTaps
  have bIBadTaps := FIBadTaps.binds (ps := ["self"]) fun _ _ _ _ _ _ us hl => match us, hl with | [_], _ => rfl
  have OBadNoise : OexC K xBadNoise := ⟨⟨_, _, _, _, _, _, _, _, _, _, _, _, _, _, _, o1BadNoise, o2BadNoise⟩, o3BadNoise, exBadNoise, o4BadNoise, o5BadNoise⟩
  have FIBadNoise := fun_mk (st := i_BadNoise) o8BadNoise o9BadNoise p1BadNoise
  have bIBadNoise := FIBadNoise.binds (ps := ["self"]) fun _ _ _ _ _ _ us hl => match us, hl with | [_], _ => rfl
  refine ⟨PySem.W.fnOf "law" "law" (defArgs s_law) (defBody s_law) (defScope s_law) .none kV64 dc64 pm64 an64 (.ref cL_) ct64, [(cL_, tP)], spLaw K tP, ?_, ?_, ?_, fun s v => .of_eq rfl, ?_, fun base _ _ hTB => ?_⟩
  · intro p hp
    rw [List.mem_singleton.mp hp]
    exact own
  · intro p hp
    rw [List.mem_singleton.mp hp]
    exact t4
  · intro p hp
    rw [List.mem_singleton.mp hp]
    exact PySem.W.codeHd_of_K X t3
  · intro H a ns _ _ hH hS
    exact ⟨a, ns, rfl, hS, hH _ (List.mem_singleton.mpr rfl), fun _ => rfl⟩
  have OKL := ok_i_LineError (P := l.prog) (w := w) (base := base) (mg := mg) (k := 0) FD (PySem.W.mg_none_of X G z_ValueError) e10
  have X_BadBit : XcOk l.prog w K mg base 2 "BadBit" xBadBit (spIni K xBadBit "BadBit" "at") := ⟨fIBadBit, _, _, OBadBit, o6BadBit, o7BadBit, ok_i_BadBit FIBadBit TL OKL bLE OBadBit p2BadBit noBadBit, bIBadBit, PySem.W.mg_of X G gBadBit⟩
  have X_BadFrame : XcOk l.prog w K mg base 2 "BadFrame" xBadFrame (spIni K xBadFrame "BadFrame" "at") := ⟨fIBadFrame, _, _, OBadFrame, o6BadFrame, o7BadFrame, ok_i_BadFrame FIBadFrame TL OKL bLE OBadFrame p2BadFrame noBadFrame, bIBadFrame, PySem.W.mg_of X G gBadFrame⟩
  have X_BadCount : XcOk l.prog w K mg base 2 "BadCount" xBadCount (spIni0 K xBadCount "BadCount") := ⟨fIBadCount, _, _, OBadCount, o6BadCount, o7BadCount, ok_i_BadCount FIBadCount TL OKL bLE OBadCount p2BadCount, bIBadCount, PySem.W.mg_of X G gBadCount⟩
  have X_BadRate : XcOk l.prog w K mg base 2 "BadRate" xBadRate (spIni0 K xBadRate "BadRate") := ⟨fIBadRate, _, _, OBadRate, o6BadRate, o7BadRate, ok_i_BadRate FIBadRate TL OKL bLE OBadRate p2BadRate, bIBadRate, PySem.W.mg_of X G gBadRate⟩
  have X_BadTaps : XcOk l.prog w K mg base 2 "BadTaps" xBadTaps (spIni0 K xBadTaps "BadTaps") := ⟨fIBadTaps, _, _, OBadTaps, o6BadTaps, o7BadTaps, ok_i_BadTaps FIBadTaps TL OKL bLE OBadTaps p2BadTaps, bIBadTaps, PySem.W.mg_of X G gBadTaps⟩
  have X_BadNoise : XcOk l.prog w K mg base 2 "BadNoise" xBadNoise (spIni0 K xBadNoise "BadNoise") := ⟨fIBadNoise, _, _, OBadNoise, o6BadNoise, o7BadNoise, ok_i_BadNoise FIBadNoise TL OKL bLE OBadNoise p2BadNoise, bIBadNoise, PySem.W.mg_of X G gBadNoise⟩
  have TB := hTB _ (List.mem_singleton.mpr rfl)
  have C_check_bits : CalX l.prog w K mg base 4 "check_bits" ["bits"] (spCheckX K xBadBit) := ⟨f0, _, ok_check_bits F0 (PySem.W.mg_none_of X G z_enumerate) (X_BadBit.mono (by decide)), PySem.W.mg_of X G a0, k0, b0⟩
  have C_bits_number : CalX l.prog w K mg base 5 "bits_number" ["bits"] (spBnX K xBadBit xBadCount) := ⟨f1, _, ok_bits_number F1 (PySem.W.mg_none_of X G z_len) (PySem.W.mg_of X G q_MOST_BITS) (X_BadCount.mono (by decide)) (C_check_bits.mono (by decide)), PySem.W.mg_of X G a1, k1, b1⟩
  have C_number_bits : CalX l.prog w K mg base 4 "number_bits" ["number", "many"] (spNbX xBadCount) := ⟨f2, _, ok_number_bits F2 (PySem.W.mg_none_of X G z_range) (PySem.W.mg_of X G q_MOST_BITS) (X_BadCount.mono (by decide)), PySem.W.mg_of X G a2, k2, b2⟩
  have C_moved_on : Cal l.prog w K mg base 1 "moved_on" ["cells", "bit"] (spMoved K) := ⟨f3, _, ok_moved_on F3 (PySem.W.mg_of X G q_TURNED) h_TURNED, PySem.W.mg_of X G a3, k3, b3⟩
  have C_seal_of : Cal l.prog w K mg base 5 "seal_of" ["bits"] (spSealN K) := ⟨f4, _, ok_seal_of F4 (PySem.W.mg_of X G q_SEAL) (C_check_bits.mono (by decide)) (C_moved_on.mono (by decide)), PySem.W.mg_of X G a4, k4, b4⟩
  have C_holds : Cal l.prog w K mg base 6 "holds" ["bits"] (spHolds K) := ⟨f5, _, ok_holds F5 (PySem.W.mg_none_of X G z_len) (PySem.W.mg_none_of X G z_list) (PySem.W.mg_of X G q_SEAL) (C_check_bits.mono (by decide)) (C_seal_of.mono (by decide)), PySem.W.mg_of X G a5, k5, b5⟩
  have C_unstuffed : CalX l.prog w K mg base 5 "unstuffed" ["bits"] (spUnX K xBadBit xBadFrame) := ⟨f6, _, ok_unstuffed F6 (PySem.W.mg_none_of X G z_enumerate) (PySem.W.mg_none_of X G z_len) (PySem.W.mg_of X G q_MOST_ONES) (X_BadFrame.mono (by decide)) (C_check_bits.mono (by decide)), PySem.W.mg_of X G a6, k6, b6⟩
  have C_payload_between : Cal l.prog w K mg base 7 "payload_between" ["bits"] (spPb K) := ⟨f7, _, ok_payload_between F7 (PySem.W.mg_none_of X G z_len) (PySem.W.mg_of X G q_SEAL) (PySem.W.mg_of X G q_LONGEST) (PySem.W.mg_of X G gBadFrame) mB_BadFrame_BadFrame (C_unstuffed.mono (by decide)) (C_holds.mono (by decide)), PySem.W.mg_of X G a7, k7, b7⟩
  have C_new_Reader : CalN l.prog w K mg base 1 "Reader" cReader ["self"] (spRi cReader) := ⟨f8, _, ⟨r6Reader, a8, i8, r7Reader⟩, ok_Reader___init__ F8 R_Reader, PySem.W.mg_of X G r1Reader, b8⟩
  have C_Reader_pass_mark : CalM CX0 l.prog w K mg base 8 cReader "pass_mark" ["self"] (spPm cReader) := ⟨f9, _, clsReader, ⟨a9, i9, k9⟩, ok_Reader_pass_mark F9 (PySem.W.mg_none_of X G z_len) (PySem.W.mg_of X G q_MARK) h_MARK R_Reader (C_payload_between.mono (by decide)), b9⟩
  have C_Reader_take_bit : CalM CX0 l.prog w K mg base 9 cReader "take_bit" ["self", "bit"] (spTb cReader) := ⟨f10, _, clsReader, ⟨a10, i10, k10⟩, ok_Reader_take_bit F10 (PySem.W.mg_none_of X G z_len) (PySem.W.mg_none_of X G z_tuple) (PySem.W.mg_of X G q_MARK) h_MARK (PySem.W.mg_of X G q_MOST_OPEN) R_Reader (C_Reader_pass_mark.mono (by decide)), b10⟩
  have C_Reader_take : CalM (L2.CX l.prog w) l.prog w K mg base 10 cReader "take" ["self", "bits"] (spTake cReader xBadBit) := ⟨f11, _, clsReader, ⟨a11, i11, k11⟩, ok_Reader_take F11 R_Reader (C_check_bits.mono (by decide)) (C_Reader_take_bit.mono (by decide)), b11⟩
  have C_Reader_hurt : CalM CX0 l.prog w K mg base 1 cReader "hurt" ["self"] (spHurt cReader) := ⟨f12, _, clsReader, ⟨a12, i12, k12⟩, ok_Reader_hurt F12 R_Reader, b12⟩
  have C_check_rate : CalX l.prog w K mg base 4 "check_rate" ["rate"] (spCR xBadRate) := ⟨f13, _, ok_check_rate F13 (PySem.W.mg_of X G q_RATES) h_RATES (X_BadRate.mono (by decide)), PySem.W.mg_of X G a13, k13, b13⟩
  have C_folded : Cal l.prog w K mg base 1 "folded" ["number"] (spFolded) := ⟨f14, _, ok_folded F14 (PySem.W.mg_of X G q_RING), PySem.W.mg_of X G a14, k14, b14⟩
  have C_apart : Cal l.prog w K mg base 2 "apart" ["one", "other"] (spApart) := ⟨f15, _, ok_apart F15 (PySem.W.mg_none_of X G z_abs) (C_folded.mono (by decide)), PySem.W.mg_of X G a15, k15, b15⟩
  have C_points_at : CalX l.prog w K mg base 5 "points_at" ["rate"] (spPA xBadRate) := ⟨f16, _, ok_points_at F16 (PySem.W.mg_of X G q_FEWEST_POINTS) (C_check_rate.mono (by decide)), PySem.W.mg_of X G a16, k16, b16⟩
  have C_step : CalX l.prog w K mg base 6 "step" ["rate"] (spStep xBadRate) := ⟨f17, _, ok_step F17 (PySem.W.mg_of X G q_RING) (C_points_at.mono (by decide)), PySem.W.mg_of X G a17, k17, b17⟩
  have O_18 : FnOk l.prog w K mg base (L2.CX l.prog w) 7 f18 _ ["number", "rate"] (spPoint xBadCount xBadRate) := ok_point F18 (PySem.W.mg_of X G q_RING) (X_BadCount.mono (by decide)) (C_points_at.mono (by decide)) (C_step.mono (by decide))
  have C_w_point_1_rate : CalW l.prog w K mg base 7 "point" ["number", "rate"] 1 ["rate"] (fun vs zs => vs ++ zs) (spPoint xBadCount xBadRate) := by
    obtain ⟨g, hg⟩ := kbn_app (ps := ["number", "rate"]) F18 1 ["rate"] (by intro z; cases z) fun _ _ _ _ _ _ us ws h1 h2 => match us, ws, h1, h2 with | [_], [_], _, _ => rfl
    exact ⟨f18, _, g, O_18, PySem.W.mg_of X G a18, k18, hg⟩
  have C_moved : Cal l.prog w K mg base 1 "moved" ["state", "first"] (spMovedS) := ⟨f19, _, ok_moved F19 , PySem.W.mg_of X G a19, k19, b19⟩
  have C_class_of : Cal l.prog w K mg base 1 "class_of" ["state", "first"] (spClass) := ⟨f20, _, ok_class_of F20 , PySem.W.mg_of X G a20, k20, b20⟩
  have O_21 : FnOk l.prog w K mg base (L2.CX l.prog w) 6 f21 _ ["bits", "rate"] (spCoded K xBadBit xBadCount xBadRate) := ok_coded F21 (PySem.W.mg_none_of X G z_len) (PySem.W.mg_none_of X G z_list) (PySem.W.mg_none_of X G z_range) (PySem.W.mg_of X G q_TAIL) (X_BadCount.mono (by decide)) (C_check_rate.mono (by decide)) (C_check_bits.mono (by decide)) (C_bits_number.mono (by decide)) (C_class_of.mono (by decide)) (C_moved.mono (by decide))
  have C_w_coded_1_rate : CalW l.prog w K mg base 6 "coded" ["bits", "rate"] 1 ["rate"] (fun vs zs => vs ++ zs) (spCoded K xBadBit xBadCount xBadRate) := by
    obtain ⟨g, hg⟩ := kbn_app (ps := ["bits", "rate"]) F21 1 ["rate"] (by intro z; cases z) fun _ _ _ _ _ _ us ws h1 h2 => match us, ws, h1, h2 with | [_], [_], _, _ => rfl
    exact ⟨f21, _, g, O_21, PySem.W.mg_of X G a21, k21, hg⟩
  have C_nearest_of_class : Cal l.prog w K mg base 8 "nearest_of_class" ["number", "low", "rate"] (spNC) := ⟨f22, _, ok_nearest_of_class F22 (PySem.W.mg_none_of X G z_min) (PySem.W.mg_of X G q_RING) (C_step.mono (by decide)) (C_w_point_1_rate.mono (by decide)), PySem.W.mg_of X G a22, k22, b22⟩
  have C_onward : Cal l.prog w K mg base 2 "onward" ["state", "first", "classes", "costs"] (spOn K) := ⟨f23, _, ok_onward F23 (C_class_of.mono (by decide)) (C_moved.mono (by decide)), PySem.W.mg_of X G a23, k23, b23⟩
  have C_best_of_beat : Cal l.prog w K mg base 9 "best_of_beat" ["number", "costs", "rate"] (spBB K) := ⟨f24, _, ok_best_of_beat F24 (PySem.W.mg_none_of X G z_min) (PySem.W.mg_none_of X G z_range) (PySem.W.mg_of X G q_STATES) (C_nearest_of_class.mono (by decide)) (C_onward.mono (by decide)), PySem.W.mg_of X G a24, k24, b24⟩
  have C_tail_costs : Cal l.prog w K mg base 8 "tail_costs" ["heard", "rate"] (spTC K) := ⟨f25, _, ok_tail_costs F25 (PySem.W.mg_none_of X G z_range) (PySem.W.mg_none_of X G z_reversed) (PySem.W.mg_of X G q_STATES) (C_apart.mono (by decide)) (C_w_point_1_rate.mono (by decide)) (C_class_of.mono (by decide)) (C_moved.mono (by decide)), PySem.W.mg_of X G a25, k25, b25⟩
  have C_bits_along : Cal l.prog w K mg base 5 "bits_along" ["beats", "rate"] (spBA K) := ⟨f26, _, ok_bits_along F26 (C_number_bits.mono (by decide)) (C_moved.mono (by decide)), PySem.W.mg_of X G a26, k26, b26⟩
  have O_27 : FnOk l.prog w K mg base (L2.CX l.prog w) 11 f27 _ ["heard", "rate"] (spHP K xBadCount xBadRate) := ok_heard_path F27 (PySem.W.mg_none_of X G z_len) (PySem.W.mg_none_of X G z_reversed) (PySem.W.mg_of X G q_TAIL) (X_BadCount.mono (by decide)) (C_check_rate.mono (by decide)) (C_tail_costs.mono (by decide)) (C_best_of_beat.mono (by decide)) (C_bits_along.mono (by decide))
  have C_w_heard_path_1_rate : CalW l.prog w K mg base 11 "heard_path" ["heard", "rate"] 1 ["rate"] (fun vs zs => vs ++ zs) (spHP K xBadCount xBadRate) := by
    obtain ⟨g, hg⟩ := kbn_app (ps := ["heard", "rate"]) F27 1 ["rate"] (by intro z; cases z) fun _ _ _ _ _ _ us ws h1 h2 => match us, ws, h1, h2 with | [_], [_], _, _ => rfl
    exact ⟨f27, _, g, O_27, PySem.W.mg_of X G a27, k27, hg⟩
  have C_pushed_through : CalX l.prog w K mg base 5 "pushed_through" ["cells", "bits", "keeps_out"] (spPT K xBadBit) := ⟨f28, _, ok_pushed_through F28 (PySem.W.mg_of X G q_FOURTH) (PySem.W.mg_of X G q_SEVENTH) (C_check_bits.mono (by decide)), PySem.W.mg_of X G a28, k28, b28⟩
  have O_29 : FnOk l.prog w K mg base (L2.CX l.prog w) 5 f29 _ ["self", "seed"] (spSi cScrambler xBadCount) := ok_Scrambler___init__ F29 R_Scrambler (PySem.W.mg_of X G q_MEMORY_BITS) (C_number_bits.mono (by decide))
  have C_nw_Scrambler : CalNW l.prog w K mg base 5 "Scrambler" cScrambler ["self", "seed"] ["seed"] (fun vs zs => vs ++ zs) (spSi cScrambler xBadCount) := by
    obtain ⟨g, hg⟩ := kbn_app (ps := ["self", "seed"]) F29 1 ["seed"] (by intro z; cases z) fun _ _ _ _ _ _ us ws h1 h2 => match us, ws, h1, h2 with | [_], [_], _, _ => rfl
    exact ⟨f29, _, g, ⟨r6Scrambler, a29, i29, r7Scrambler⟩, O_29, PySem.W.mg_of X G r1Scrambler, hg⟩
  have C_nd_Scrambler : CalND l.prog w K mg base 5 "Scrambler" cScrambler ["self", "seed"] [.int 0] (spSi cScrambler xBadCount) := by
    obtain ⟨ds, hv, hb⟩ := dfl_one (ps := ["self", "seed"]) F29 1 rfl fun _ _ _ _ _ _ us u h1 => match us, h1 with | [_], _ => ⟨_, _, _, _, _, _, rfl, rfl, rfl⟩
    exact ⟨f29, _, ds, ⟨r6Scrambler, a29, i29, r7Scrambler⟩, O_29, PySem.W.mg_of X G r1Scrambler, hb, hv⟩
  have C_Scrambler_push : CalM (L2.CX l.prog w) l.prog w K mg base 6 cScrambler "push" ["self", "bits"] (spPush true cScrambler xBadBit) := ⟨f30, _, clsScrambler, ⟨a30, i30, k30⟩, ok_Scrambler_push F30 R_Scrambler (C_pushed_through.mono (by decide)), b30⟩
  have C_Scrambler_memory : CalM CX0 l.prog w K mg base 6 cScrambler "memory" ["self"] (spMem cScrambler) := ⟨f31, _, clsScrambler, ⟨a31, i31, k31⟩, ok_Scrambler_memory F31 R_Scrambler (C_bits_number.mono (by decide)), b31⟩
  have O_32 : FnOk l.prog w K mg base (L2.CX l.prog w) 5 f32 _ ["self", "seed"] (spSi cDescrambler xBadCount) := ok_Descrambler___init__ F32 R_Descrambler (PySem.W.mg_of X G q_MEMORY_BITS) (C_number_bits.mono (by decide))
  have C_nw_Descrambler : CalNW l.prog w K mg base 5 "Descrambler" cDescrambler ["self", "seed"] ["seed"] (fun vs zs => vs ++ zs) (spSi cDescrambler xBadCount) := by
    obtain ⟨g, hg⟩ := kbn_app (ps := ["self", "seed"]) F32 1 ["seed"] (by intro z; cases z) fun _ _ _ _ _ _ us ws h1 h2 => match us, ws, h1, h2 with | [_], [_], _, _ => rfl
    exact ⟨f32, _, g, ⟨r6Descrambler, a32, i32, r7Descrambler⟩, O_32, PySem.W.mg_of X G r1Descrambler, hg⟩
  have C_nd_Descrambler : CalND l.prog w K mg base 5 "Descrambler" cDescrambler ["self", "seed"] [.int 0] (spSi cDescrambler xBadCount) := by
    obtain ⟨ds, hv, hb⟩ := dfl_one (ps := ["self", "seed"]) F32 1 rfl fun _ _ _ _ _ _ us u h1 => match us, h1 with | [_], _ => ⟨_, _, _, _, _, _, rfl, rfl, rfl⟩
    exact ⟨f32, _, ds, ⟨r6Descrambler, a32, i32, r7Descrambler⟩, O_32, PySem.W.mg_of X G r1Descrambler, hb, hv⟩
  have C_Descrambler_push : CalM (L2.CX l.prog w) l.prog w K mg base 6 cDescrambler "push" ["self", "bits"] (spPush false cDescrambler xBadBit) := ⟨f33, _, clsDescrambler, ⟨a33, i33, k33⟩, ok_Descrambler_push F33 R_Descrambler (C_pushed_through.mono (by decide)), b33⟩
  have C_Descrambler_memory : CalM CX0 l.prog w K mg base 6 cDescrambler "memory" ["self"] (spMem cDescrambler) := ⟨f34, _, clsDescrambler, ⟨a34, i34, k34⟩, ok_Descrambler_memory F34 R_Descrambler (C_bits_number.mono (by decide)), b34⟩
  have C_without_last_noughts : Cal l.prog w K mg base 1 "without_last_noughts" ["numbers"] (spWN K) := ⟨f35, _, ok_without_last_noughts F35 (PySem.W.mg_none_of X G z_len) (PySem.W.mg_none_of X G z_tuple), PySem.W.mg_of X G a35, k35, b35⟩
  have C_right_shares : CalX l.prog w K mg base 4 "right_shares" ["numbers"] (spRS K xBadTaps) := ⟨f36, _, ok_right_shares F36 (PySem.W.mg_none_of X G z_len) (PySem.W.mg_none_of X G z_abs) (PySem.W.mg_of X G q_MOST_SHARES) (PySem.W.mg_of X G q_GREATEST_SHARE) (X_BadTaps.mono (by decide)) (C_without_last_noughts.mono (by decide)), PySem.W.mg_of X G a36, k36, b36⟩
  have C_left_behind : Cal l.prog w K mg base 1 "left_behind" ["shares", "tones"] (spLB K) := ⟨f37, _, ok_left_behind F37 (PySem.W.mg_none_of X G z_sum) (PySem.W.mg_none_of X G z_zip), PySem.W.mg_of X G a37, k37, b37⟩
  have C_no_tones : Cal l.prog w K mg base 1 "no_tones" [] (spNT) := ⟨f38, _, ok_no_tones F38 (PySem.W.mg_of X G q_MOST_SHARES), PySem.W.mg_of X G a38, k38, b38⟩
  have C_with_latest : Cal l.prog w K mg base 1 "with_latest" ["tone", "tones"] (spWL K) := ⟨f39, _, ok_with_latest F39 (PySem.W.mg_of X G q_MOST_SHARES), PySem.W.mg_of X G a39, k39, b39⟩
  have O_40 : FnOk l.prog w K mg base (L2.CX l.prog w) 5 f40 _ ["self", "shares"] (spShI K cShaper xBadTaps) := ok_Shaper___init__ F40 R_Shaper (C_right_shares.mono (by decide)) (C_no_tones.mono (by decide))
  have C_nx_Shaper : CalNX l.prog w K mg base 5 "Shaper" cShaper ["self", "shares"] (spShI K cShaper xBadTaps) := by
    obtain ⟨ds, r, hb⟩ := F40.binds1 (ps := ["self", "shares"]) 2 1 (by simp) rfl (fun T kV doc pm an cdv ct us its hu hi => match us, its, hu, hi with | [_, _], [_], _, _ => ⟨_, rfl, rfl⟩)
    cases r
    exact ⟨f40, _, ⟨r6Shaper, a40, i40, r7Shaper⟩, O_40, PySem.W.mg_of X G r1Shaper, hb⟩
  have C_nd_Shaper : CalND l.prog w K mg base 5 "Shaper" cShaper ["self", "shares"] [.ref e40_0] (spShI K cShaper xBadTaps) := by
    obtain ⟨ds, r, hb⟩ := F40.binds1 (ps := ["self", "shares"]) 1 0 (by simp) rfl (fun T kV doc pm an cdv ct us its hu hi => match us, its, hu, hi with | [_], [_], _, _ => ⟨_, rfl, rfl⟩)
    exact ⟨f40, _, ds, ⟨r6Shaper, a40, i40, r7Shaper⟩, O_40, PySem.W.mg_of X G r1Shaper, hb, r⟩
  have C_Shaper_say : CalM (L2.CX l.prog w) l.prog w K mg base 4 cShaper "say" ["self", "value"] (spSay K cShaper xBadCount) := ⟨f41, _, clsShaper, ⟨a41, i41, k41⟩, ok_Shaper_say F41 R_Shaper (X_BadCount.mono (by decide)) (C_folded.mono (by decide)) (C_left_behind.mono (by decide)) (C_with_latest.mono (by decide)), b41⟩
  have C_Shaper_past : CalM CX0 l.prog w K mg base 1 cShaper "past" ["self"] (spPast cShaper) := ⟨f42, _, clsShaper, ⟨a42, i42, k42⟩, ok_Shaper_past F42 R_Shaper (PySem.W.mg_none_of X G z_list), b42⟩
  have C_burst_bits : Cal l.prog w K mg base 1 "burst_bits" ["rate"] (spBuB) := ⟨f43, _, ok_burst_bits F43 (PySem.W.mg_of X G q_DATA), PySem.W.mg_of X G a43, k43, b43⟩
  have O_44 : FnOk l.prog w K mg base (L2.CX l.prog w) 7 f44 _ ["self", "shares", "rate", "seed"] (spMoI K cMouth cShaper cScrambler xBadRate xBadTaps xBadCount) := ok_Mouth___init__ F44 R_Mouth (C_check_rate.mono (by decide)) (C_nx_Shaper.mono (by decide)) (C_nw_Scrambler.mono (by decide))
  have C_np_Mouth_1_ : CalNP l.prog w K mg base 7 "Mouth" cMouth ["self", "shares", "rate", "seed"] 1 [] (fun vs zs => vs ++ ([.ref e44_0] : List V).drop 1 ++ pickL (zs ++ [.int 1, .int 0]) [0, 1]) (spMoI K cMouth cShaper cScrambler xBadRate xBadTaps xBadCount) := by
    obtain ⟨g, hg⟩ := kbn_pickD (ps := ["self", "shares", "rate", "seed"]) F44 2 1 [] [("rate", .int 1), ("seed", .int 0)] [0, 1] (by simp) (by intro z; cases z) (by simp) (fun T D doc pm an cdv ct us its mv ws h1 h2 h3 h4 => match us, its, mv, ws, h1, h2, h3, h4 with | [_, _], [_], [_, _], [], _, _, _, _ => ⟨_, rfl, ⟨_, _, _, _, _, _, rfl, rfl, _, _, _, _, _, _, rfl, rfl, rfl⟩⟩)
    exact ⟨f44, _, g, ⟨r6Mouth, a44, i44, r7Mouth⟩, O_44, PySem.W.mg_of X G r1Mouth, hg⟩
  have C_Mouth_burst : CalM CX0 l.prog w K mg base 8 cMouth "burst" ["self"] (spMoBurst K cMouth cShaper cScrambler) := ⟨f45, _, clsMouth, ⟨a45, i45, k45⟩, ok_Mouth_burst F45 R_Mouth (PySem.W.mg_none_of X G z_len) (PySem.W.mg_of X G q_MARK) h_MARK (C_burst_bits.mono (by decide)) (C_w_coded_1_rate.mono (by decide)) (C_w_point_1_rate.mono (by decide)) (C_Scrambler_push.mono (by decide)) (C_Shaper_say.mono (by decide)), b45⟩
  have C_check_burst : CalX l.prog w K mg base 4 "check_burst" ["numbers"] (spCkB K xBadNoise) := ⟨f46, _, ok_check_burst F46 (PySem.W.mg_none_of X G z_len) (PySem.W.mg_of X G q_BURST) (X_BadNoise.mono (by decide)), PySem.W.mg_of X G a46, k46, b46⟩
  have O_47 : FnOk l.prog w K mg base (L2.CX l.prog w) 7 f47 _ ["self", "echo", "rate", "seed"] (spErI K cEar cDescrambler cReader xBadRate xBadTaps xBadCount) := ok_Ear___init__ F47 R_Ear (C_check_rate.mono (by decide)) (C_right_shares.mono (by decide)) (C_nw_Descrambler.mono (by decide)) (C_new_Reader.mono (by decide)) (C_no_tones.mono (by decide))
  have C_np_Ear_1_ : CalNP l.prog w K mg base 7 "Ear" cEar ["self", "echo", "rate", "seed"] 1 [] (fun vs zs => vs ++ ([.ref e47_0] : List V).drop 1 ++ pickL (zs ++ [.int 1, .int 0]) [0, 1]) (spErI K cEar cDescrambler cReader xBadRate xBadTaps xBadCount) := by
    obtain ⟨g, hg⟩ := kbn_pickD (ps := ["self", "echo", "rate", "seed"]) F47 2 1 [] [("rate", .int 1), ("seed", .int 0)] [0, 1] (by simp) (by intro z; cases z) (by simp) (fun T D doc pm an cdv ct us its mv ws h1 h2 h3 h4 => match us, its, mv, ws, h1, h2, h3, h4 with | [_, _], [_], [_, _], [], _, _, _, _ => ⟨_, rfl, ⟨_, _, _, _, _, _, rfl, rfl, _, _, _, _, _, _, rfl, rfl, rfl⟩⟩)
    exact ⟨f47, _, g, ⟨r6Ear, a47, i47, r7Ear⟩, O_47, PySem.W.mg_of X G r1Ear, hg⟩
  have C_Ear_hear : CalM (L2.CX l.prog w) l.prog w K mg base 13 cEar "hear" ["self", "heard", "own"] (spHear K cEar cDescrambler cReader xBadNoise) := ⟨f48, _, clsEar, ⟨a48, i48, k48⟩, ok_Ear_hear F48 R_Ear (PySem.W.mg_none_of X G z_zip) (C_check_burst.mono (by decide)) (C_with_latest.mono (by decide)) (C_left_behind.mono (by decide)) (C_folded.mono (by decide)) (C_w_heard_path_1_rate.mono (by decide)) (C_Descrambler_push.mono (by decide)) (C_Reader_take.mono (by decide)), b48⟩
  have C_Ear_hurt : CalM CX0 l.prog w K mg base 2 cEar "hurt" ["self"] (spErHurt cEar cDescrambler cReader) := ⟨f49, _, clsEar, ⟨a49, i49, k49⟩, ok_Ear_hurt F49 R_Ear (C_Reader_hurt.mono (by decide)), b49⟩
  have O_50 : FnOk l.prog w K mg base (L2.CX l.prog w) 5 f50 _ ["self", "forth", "back", "near", "far"] (spWi K cWire xBadTaps) := ok_Wire___init__ F50 R_Wire (C_right_shares.mono (by decide)) (C_no_tones.mono (by decide))
  have C_nw_Wire_forth_back : CalNW l.prog w K mg base 5 "Wire" cWire ["self", "forth", "back", "near", "far"] ["forth", "back"] (fun vs zs => vs ++ pickL (zs ++ [.ref e50_12, .ref e50_13]) [0, 1, 2, 3]) (spWi K cWire xBadTaps) := by
    obtain ⟨g, hg⟩ := kbn_pick (ps := ["self", "forth", "back", "near", "far"]) F50 1 ["forth", "back"] [("near", .ref e50_12), ("far", .ref e50_13)] [0, 1, 2, 3] (by intro z; cases z) (by simp) (fun D doc pm an cdv ct us mv ws h1 h2 h3 => match us, mv, ws, h1, h2, h3 with | [_], [_, _], [_, _], _, _, _ => ⟨_, _, _, _, _, _, rfl, rfl, _, _, _, _, _, _, rfl, rfl, rfl⟩)
    exact ⟨f50, _, g, ⟨r6Wire, a50, i50, r7Wire⟩, O_50, PySem.W.mg_of X G r1Wire, hg⟩
  have C_nw_Wire_back : CalNW l.prog w K mg base 5 "Wire" cWire ["self", "forth", "back", "near", "far"] ["back"] (fun vs zs => vs ++ pickL (zs ++ [.ref e50_10, .ref e50_12, .ref e50_13]) [1, 0, 2, 3]) (spWi K cWire xBadTaps) := by
    obtain ⟨g, hg⟩ := kbn_pick (ps := ["self", "forth", "back", "near", "far"]) F50 1 ["back"] [("forth", .ref e50_10), ("near", .ref e50_12), ("far", .ref e50_13)] [1, 0, 2, 3] (by intro z; cases z) (by simp) (fun D doc pm an cdv ct us mv ws h1 h2 h3 => match us, mv, ws, h1, h2, h3 with | [_], [_, _, _], [_], _, _, _ => ⟨_, _, _, _, _, _, rfl, rfl, _, _, _, _, _, _, rfl, rfl, _, _, _, _, _, _, rfl, rfl, rfl⟩)
    exact ⟨f50, _, g, ⟨r6Wire, a50, i50, r7Wire⟩, O_50, PySem.W.mg_of X G r1Wire, hg⟩
  have C_nw_Wire_near_far : CalNW l.prog w K mg base 5 "Wire" cWire ["self", "forth", "back", "near", "far"] ["near", "far"] (fun vs zs => vs ++ pickL (zs ++ [.ref e50_10, .ref e50_11]) [2, 3, 0, 1]) (spWi K cWire xBadTaps) := by
    obtain ⟨g, hg⟩ := kbn_pick (ps := ["self", "forth", "back", "near", "far"]) F50 1 ["near", "far"] [("forth", .ref e50_10), ("back", .ref e50_11)] [2, 3, 0, 1] (by intro z; cases z) (by simp) (fun D doc pm an cdv ct us mv ws h1 h2 h3 => match us, mv, ws, h1, h2, h3 with | [_], [_, _], [_, _], _, _, _ => ⟨_, _, _, _, _, _, rfl, rfl, _, _, _, _, _, _, rfl, rfl, rfl⟩)
    exact ⟨f50, _, g, ⟨r6Wire, a50, i50, r7Wire⟩, O_50, PySem.W.mg_of X G r1Wire, hg⟩
  have C_nw_Wire_far : CalNW l.prog w K mg base 5 "Wire" cWire ["self", "forth", "back", "near", "far"] ["far"] (fun vs zs => vs ++ pickL (zs ++ [.ref e50_10, .ref e50_11, .ref e50_12]) [1, 2, 3, 0]) (spWi K cWire xBadTaps) := by
    obtain ⟨g, hg⟩ := kbn_pick (ps := ["self", "forth", "back", "near", "far"]) F50 1 ["far"] [("forth", .ref e50_10), ("back", .ref e50_11), ("near", .ref e50_12)] [1, 2, 3, 0] (by intro z; cases z) (by simp) (fun D doc pm an cdv ct us mv ws h1 h2 h3 => match us, mv, ws, h1, h2, h3 with | [_], [_, _, _], [_], _, _, _ => ⟨_, _, _, _, _, _, rfl, rfl, _, _, _, _, _, _, rfl, rfl, _, _, _, _, _, _, rfl, rfl, rfl⟩)
    exact ⟨f50, _, g, ⟨r6Wire, a50, i50, r7Wire⟩, O_50, PySem.W.mg_of X G r1Wire, hg⟩
  have C_nw_Wire_near : CalNW l.prog w K mg base 5 "Wire" cWire ["self", "forth", "back", "near", "far"] ["near"] (fun vs zs => vs ++ pickL (zs ++ [.ref e50_10, .ref e50_11, .ref e50_13]) [1, 2, 0, 3]) (spWi K cWire xBadTaps) := by
    obtain ⟨g, hg⟩ := kbn_pick (ps := ["self", "forth", "back", "near", "far"]) F50 1 ["near"] [("forth", .ref e50_10), ("back", .ref e50_11), ("far", .ref e50_13)] [1, 2, 0, 3] (by intro z; cases z) (by simp) (fun D doc pm an cdv ct us mv ws h1 h2 h3 => match us, mv, ws, h1, h2, h3 with | [_], [_, _, _], [_], _, _, _ => ⟨_, _, _, _, _, _, rfl, rfl, _, _, _, _, _, _, rfl, rfl, _, _, _, _, _, _, rfl, rfl, rfl⟩)
    exact ⟨f50, _, g, ⟨r6Wire, a50, i50, r7Wire⟩, O_50, PySem.W.mg_of X G r1Wire, hg⟩
  have C_nd_Wire : CalND l.prog w K mg base 5 "Wire" cWire ["self", "forth", "back", "near", "far"] [.ref e50_10, .ref e50_11, .ref e50_12, .ref e50_13] (spWi K cWire xBadTaps) := by
    obtain ⟨ds, r, hb⟩ := F50.binds0 (ps := ["self", "forth", "back", "near", "far"]) 1 (by intro z; cases z) rfl (fun D doc pm an cdv ct us ks h1 h2 => match us, ks, h1, h2 with | [_], [_, _, _, _], _, _ => ⟨_, _, _, _, _, _, rfl, rfl, _, _, _, _, _, _, rfl, rfl, _, _, _, _, _, _, rfl, rfl, _, _, _, _, _, _, rfl, rfl, rfl⟩)
    exact ⟨f50, _, ds, ⟨r6Wire, a50, i50, r7Wire⟩, O_50, PySem.W.mg_of X G r1Wire, hb, r⟩
  have C_Wire_shares : CalM CX0 l.prog w K mg base 1 cWire "shares" ["self"] (spWShares cWire) := ⟨f51, _, clsWire, ⟨a51, i51, k51⟩, ok_Wire_shares F51 R_Wire, b51⟩
  have R52_ := (FnOk.raw (ok_Wire___eq__ (P := l.prog) (w := w) (base := base) (mg := mg) (k := 0) F52 R_Wire (PySem.W.mg_none_of X G z_isinstance) (PySem.W.mg_of X G r1Wire) IS_Wire) b52 .nil).imp (sp' := spWEq K cWire) (fun vs H Q E h => by rw [List.append_nil]; exact h)
  have OE_Wire : EqF l.prog w K mg base 1 cWire (spWEq K cWire) := ⟨f52, a52, i52, R52_, ne_Wire, mr_Wire⟩
  have C__law_bag : Cal l.prog w K mg base 1 "_law_bag" ["_law_script"] (spBag K) := ⟨f53, _, ok__law_bag F53 (PySem.W.mg_none_of X G z_len) (PySem.W.mg_none_of X G z_list), PySem.W.mg_of X G a53, k53, b53⟩
  have C__law_pick : Cal l.prog w K mg base 1 "_law_pick" ["_law_bag_here", "_law_top"] (spPick) := ⟨f54, _, ok__law_pick F54 (PySem.W.mg_none_of X G z_len), PySem.W.mg_of X G a54, k54, b54⟩
  have C__law_pickW : Cal l.prog w K mg base 1 "_law_pick" ["_law_bag_here", "_law_top"] (spPickW) := ⟨f54, _, ok__law_pickW F54 (PySem.W.mg_none_of X G z_len), PySem.W.mg_of X G a54, k54, b54⟩
  have C__law_of : Cal l.prog w K mg base 2 "_law_of" ["_law_bag_here", "_law_some"] (spOf K) := ⟨f55, _, ok__law_of F55 (PySem.W.mg_none_of X G z_len) (C__law_pick.mono (by decide)), PySem.W.mg_of X G a55, k55, b55⟩
  have C__law_same : Cal l.prog w K mg base 6 "_law_same" ["_law_found", "_law_due"] (spSame K 6) := ⟨f56, _, ok__law_same F56 (PySem.W.mg_of X G a56) b56 (PySem.W.mg_none_of X G z_len) (PySem.W.mg_none_of X G z_all) (PySem.W.mg_none_of X G z_bool) (PySem.W.mg_none_of X G z_int) (PySem.W.mg_none_of X G z_isinstance) (PySem.W.mg_none_of X G z_list) (PySem.W.mg_none_of X G z_range) (PySem.W.mg_none_of X G z_str) (PySem.W.mg_none_of X G z_tuple) 6, PySem.W.mg_of X G a56, k56, b56⟩
  have C__law_far : Cal l.prog w K mg base 2 "_law_far" ["_law_bag_here"] (spFar) := ⟨f58, _, ok__law_far F58 (C__law_pickW.mono (by decide)), PySem.W.mg_of X G a58, k58, b58⟩
  have C__law_shares : Cal l.prog w K mg base 2 "_law_shares" ["_law_bag_here"] (spShares K) := ⟨f59, _, ok__law_shares F59 (PySem.W.mg_none_of X G z_range) (PySem.W.mg_none_of X G z_tuple) (C__law_pick.mono (by decide)), PySem.W.mg_of X G a59, k59, b59⟩
  have C__law_trimmed : Cal l.prog w K mg base 1 "_law_trimmed" ["_law_figures"] (spTrim K) := ⟨f60, _, ok__law_trimmed F60 (PySem.W.mg_none_of X G z_list) (PySem.W.mg_none_of X G z_tuple), PySem.W.mg_of X G a60, k60, b60⟩
  have C__law_tone : Cal l.prog w K mg base 3 "_law_tone" ["_law_bag_here"] (spTone) := ⟨f61, _, ok__law_tone F61 (C__law_pick.mono (by decide)) (C__law_of.mono (by decide)) (C__law_far.mono (by decide)), PySem.W.mg_of X G a61, k61, b61⟩
  have C__law_bad_shares : Cal l.prog w K mg base 3 "_law_bad_shares" ["_law_bag_here"] (spBadSh) := ⟨f62, _, ok__law_bad_shares F62 (PySem.W.mg_none_of X G z_range) (PySem.W.mg_none_of X G z_tuple) (C__law_pick.mono (by decide)) (C__law_of.mono (by decide)), PySem.W.mg_of X G a62, k62, b62⟩
  have C__law_noughts_behind : Cal l.prog w K mg base 14 "_law_noughts_behind" ["_law_bag_here", "_law_good", "_law_longer"] (spNought K) := ⟨f63, _, ok__law_noughts_behind F63 (PySem.W.mg_none_of X G z_range) (PySem.W.mg_none_of X G z_list) (C_np_Mouth_1_.mono (by decide)) (C_np_Ear_1_.mono (by decide)) (C_Mouth_burst.mono (by decide)) (C_Ear_hear.mono (by decide)) (C_Ear_hurt.mono (by decide)) (C__law_same.mono (by decide)) (C__law_tone.mono (by decide)), PySem.W.mg_of X G a63, k63, b63⟩
  exact ok_law l64 c64 TB (PySem.W.mg_of X G e1) l57 c57 k57 (PySem.W.mg_of X G a57) b57 ⟨gaBadCount, ggBadCount, exBadCount, hdBadCount⟩ p2BadCount ⟨gaBadTaps, ggBadTaps, exBadTaps, hdBadTaps⟩ p2BadTaps (PySem.W.mg_of X G gMissing) mBLineBadCount mBLineBadTaps (PySem.W.mg_none_of X G z_list) (PySem.W.mg_none_of X G z_range) (PySem.W.mg_none_of X G z_tuple) h_e50_10 h_e50_11 h_e50_12 h_e50_13 (C_nx_Shaper.mono (by decide)) (C_nx_Shaper.mono (by decide)) (C_np_Ear_1_.mono (by decide)) (C_np_Mouth_1_.mono (by decide)) (C_nw_Wire_forth_back.mono (by decide)) (C_nw_Wire_back.mono (by decide)) (C_nw_Wire_near_far.mono (by decide)) (C_nw_Wire_far.mono (by decide)) (C_nw_Wire_near.mono (by decide)) (C_nw_Wire_far.mono (by decide)) (C_nw_Wire_forth_back.mono (by decide)) (C_nd_Wire.mono (by decide)) (C_Shaper_say.mono (by decide)) (C_Shaper_say.mono (by decide)) (C_Shaper_past.mono (by decide)) (C_Wire_shares.mono (by decide)) (OE_Wire.mono (by decide)) sb_Wire_int sb_Wire_str kt_Wire_int kt_Wire_str (C__law_bag.mono (by decide)) (C__law_pickW.mono (by decide)) (C__law_of.mono (by decide)) (C__law_shares.mono (by decide)) (C__law_trimmed.mono (by decide)) (C__law_bad_shares.mono (by decide)) (C__law_noughts_behind.mono (by decide))
theorem hd_facts {l : PySem.W.OpenLaw} {w : World} {K : PySem.W.Frag} {h : Heap} {mg : Str → Option Value} {fa : Addr} (X : K.In h) (G : h.Ns mainGlobals mg) (hfa : mg "law" = some (.ref fa)) (c : SaysB hdF hdT hdB h K) :
    LamX.LawAtS l w K CX0 15 63 "_law_script" mg fa h := by
  obtain ⟨oc0, od0, dc0, pm0, an0, ct0, sl0, l0⟩ := c.fnAt 0 (d := hdD0) rfl (eqV_ok (c.b 5 0 rfl rfl)) rfl rfl
  obtain ⟨oc1, od1, dc1, pm1, an1, ct1, sl1, l1⟩ := c.fnAt 1 (d := hdD1) rfl (eqV_ok (c.b 5 4 rfl rfl)) rfl rfl
  obtain ⟨oc2, od2, dc2, pm2, an2, ct2, sl2, l2⟩ := c.fnAt 2 (d := hdD2) rfl (eqV_ok (c.b 5 8 rfl rfl)) rfl rfl
  obtain ⟨oc3, od3, dc3, pm3, an3, ct3, sl3, l3⟩ := c.fnAt 3 (d := hdD3) rfl (eqV_ok (c.b 5 12 rfl rfl)) rfl rfl
  obtain ⟨oc4, od4, dc4, pm4, an4, ct4, sl4, l4⟩ := c.fnAt 4 (d := hdD4) rfl (eqV_ok (c.b 6 0 rfl rfl)) rfl rfl
  obtain ⟨oc5, od5, dc5, pm5, an5, ct5, sl5, l5⟩ := c.fnAt 5 (d := hdD5) rfl (eqV_ok (c.b 6 4 rfl rfl)) rfl rfl
  obtain ⟨oc6, od6, dc6, pm6, an6, ct6, sl6, l6⟩ := c.fnAt 6 (d := hdD6) rfl (eqV_ok (c.b 6 8 rfl rfl)) rfl rfl
  obtain ⟨oc7, od7, dc7, pm7, an7, ct7, sl7, l7⟩ := c.fnAt 7 (d := hdD7) rfl (eqV_ok (c.b 6 12 rfl rfl)) rfl rfl
  obtain ⟨oc8, od8, dc8, pm8, an8, ct8, sl8, l8⟩ := c.fnAt 8 (d := hdD8) rfl (eqV_ok (c.b 7 1 rfl rfl)) rfl rfl
  obtain ⟨oc9, od9, dc9, pm9, an9, ct9, sl9, l9⟩ := c.fnAt 9 (d := hdD9) rfl (eqV_ok (c.b 7 6 rfl rfl)) rfl rfl
  obtain ⟨oc10, od10, dc10, pm10, an10, ct10, sl10, l10⟩ := c.fnAt 10 (d := hdD10) rfl (eqV_ok (c.b 7 11 rfl rfl)) rfl rfl
  obtain ⟨oc11, od11, dc11, pm11, an11, ct11, sl11, l11⟩ := c.fnAt 11 (d := hdD11) rfl (eqV_ok (c.b 8 0 rfl rfl)) rfl rfl
  obtain ⟨oc12, od12, dc12, pm12, an12, ct12, sl12, l12⟩ := c.fnAt 12 (d := hdD12) rfl (eqV_ok (c.b 8 5 rfl rfl)) rfl rfl
  obtain ⟨oc13, od13, dc13, pm13, an13, ct13, sl13, l13⟩ := c.fnAt 13 (d := hdD13) rfl (eqV_ok (c.b 8 9 rfl rfl)) rfl rfl
  obtain ⟨oc14, od14, dc14, pm14, an14, ct14, sl14, l14⟩ := c.fnAt 14 (d := hdD14) rfl (eqV_ok (c.b 8 13 rfl rfl)) rfl rfl
  obtain ⟨oc15, od15, dc15, pm15, an15, ct15, sl15, l15⟩ := c.fnAt 15 (d := hdD15) rfl (eqV_ok (c.b 9 1 rfl rfl)) rfl rfl
  obtain ⟨oc16, od16, dc16, pm16, an16, ct16, sl16, l16⟩ := c.fnAt 16 (d := hdD16) rfl (eqV_ok (c.b 9 5 rfl rfl)) rfl rfl
  obtain ⟨oc17, od17, dc17, pm17, an17, ct17, sl17, l17⟩ := c.fnAt 17 (d := hdD17) rfl (eqV_ok (c.b 9 9 rfl rfl)) rfl rfl
  obtain ⟨oc18, od18, dc18, pm18, an18, ct18, sl18, l18⟩ := c.fnAt 18 (d := hdD18) rfl (eqV_ok (c.b 9 13 rfl rfl)) (eqV_ok (c.b 9 14 rfl rfl)) rfl
  obtain ⟨oc19, od19, dc19, pm19, an19, ct19, sl19, l19⟩ := c.fnAt 19 (d := hdD19) rfl (eqV_ok (c.b 10 3 rfl rfl)) rfl rfl
  obtain ⟨oc20, od20, dc20, pm20, an20, ct20, sl20, l20⟩ := c.fnAt 20 (d := hdD20) rfl (eqV_ok (c.b 10 7 rfl rfl)) rfl rfl
  obtain ⟨oc21, od21, dc21, pm21, an21, ct21, sl21, l21⟩ := c.fnAt 21 (d := hdD21) rfl (eqV_ok (c.b 10 11 rfl rfl)) (eqV_ok (c.b 10 12 rfl rfl)) rfl
  obtain ⟨oc22, od22, dc22, pm22, an22, ct22, sl22, l22⟩ := c.fnAt 22 (d := hdD22) rfl (eqV_ok (c.b 11 1 rfl rfl)) rfl rfl
  obtain ⟨oc23, od23, dc23, pm23, an23, ct23, sl23, l23⟩ := c.fnAt 23 (d := hdD23) rfl (eqV_ok (c.b 11 5 rfl rfl)) rfl rfl
  obtain ⟨oc24, od24, dc24, pm24, an24, ct24, sl24, l24⟩ := c.fnAt 24 (d := hdD24) rfl (eqV_ok (c.b 11 9 rfl rfl)) rfl rfl
  obtain ⟨oc25, od25, dc25, pm25, an25, ct25, sl25, l25⟩ := c.fnAt 25 (d := hdD25) rfl (eqV_ok (c.b 11 13 rfl rfl)) rfl rfl
  obtain ⟨oc26, od26, dc26, pm26, an26, ct26, sl26, l26⟩ := c.fnAt 26 (d := hdD26) rfl (eqV_ok (c.b 12 1 rfl rfl)) rfl rfl
  obtain ⟨oc27, od27, dc27, pm27, an27, ct27, sl27, l27⟩ := c.fnAt 27 (d := hdD27) rfl (eqV_ok (c.b 12 5 rfl rfl)) (eqV_ok (c.b 12 6 rfl rfl)) rfl
  obtain ⟨oc28, od28, dc28, pm28, an28, ct28, sl28, l28⟩ := c.fnAt 28 (d := hdD28) rfl (eqV_ok (c.b 12 11 rfl rfl)) rfl rfl
  obtain ⟨oc29, od29, dc29, pm29, an29, ct29, sl29, l29⟩ := c.fnAt 29 (d := hdD29) rfl (eqV_ok (c.b 13 0 rfl rfl)) (eqV_ok (c.b 13 1 rfl rfl)) rfl
  obtain ⟨oc30, od30, dc30, pm30, an30, ct30, sl30, l30⟩ := c.fnAt 30 (d := hdD30) rfl (eqV_ok (c.b 13 7 rfl rfl)) rfl rfl
  obtain ⟨oc31, od31, dc31, pm31, an31, ct31, sl31, l31⟩ := c.fnAt 31 (d := hdD31) rfl (eqV_ok (c.b 13 12 rfl rfl)) rfl rfl
  obtain ⟨oc32, od32, dc32, pm32, an32, ct32, sl32, l32⟩ := c.fnAt 32 (d := hdD32) rfl (eqV_ok (c.b 14 1 rfl rfl)) (eqV_ok (c.b 14 2 rfl rfl)) rfl
  obtain ⟨oc33, od33, dc33, pm33, an33, ct33, sl33, l33⟩ := c.fnAt 33 (d := hdD33) rfl (eqV_ok (c.b 14 8 rfl rfl)) rfl rfl
  obtain ⟨oc34, od34, dc34, pm34, an34, ct34, sl34, l34⟩ := c.fnAt 34 (d := hdD34) rfl (eqV_ok (c.b 14 13 rfl rfl)) rfl rfl
  obtain ⟨oc35, od35, dc35, pm35, an35, ct35, sl35, l35⟩ := c.fnAt 35 (d := hdD35) rfl (eqV_ok (c.b 15 1 rfl rfl)) rfl rfl
  obtain ⟨oc36, od36, dc36, pm36, an36, ct36, sl36, l36⟩ := c.fnAt 36 (d := hdD36) rfl (eqV_ok (c.b 15 5 rfl rfl)) rfl rfl
  obtain ⟨oc37, od37, dc37, pm37, an37, ct37, sl37, l37⟩ := c.fnAt 37 (d := hdD37) rfl (eqV_ok (c.b 15 9 rfl rfl)) rfl rfl
  obtain ⟨oc38, od38, dc38, pm38, an38, ct38, sl38, l38⟩ := c.fnAt 38 (d := hdD38) rfl (eqV_ok (c.b 15 13 rfl rfl)) rfl rfl
  obtain ⟨oc39, od39, dc39, pm39, an39, ct39, sl39, l39⟩ := c.fnAt 39 (d := hdD39) rfl (eqV_ok (c.b 16 1 rfl rfl)) rfl rfl
  obtain ⟨oc40, od40, dc40, pm40, an40, ct40, sl40, l40⟩ := c.fnAt 40 (d := hdD40) rfl (eqV_ok (c.b 16 6 rfl rfl)) rfl rfl
  obtain ⟨oT40, mT40, slT40, pd40⟩ := tupC_ok (c.b 16 7 rfl rfl)
  obtain ⟨o_e40_0, m_e40_0, sl_e40_0, w_e40_0⟩ := tupC_ok (c.b 16 8 rfl rfl)
  obtain ⟨oc41, od41, dc41, pm41, an41, ct41, sl41, l41⟩ := c.fnAt 41 (d := hdD41) rfl (eqV_ok (c.b 16 13 rfl rfl)) rfl rfl
  obtain ⟨oc42, od42, dc42, pm42, an42, ct42, sl42, l42⟩ := c.fnAt 42 (d := hdD42) rfl (eqV_ok (c.b 17 2 rfl rfl)) rfl rfl
  obtain ⟨oc43, od43, dc43, pm43, an43, ct43, sl43, l43⟩ := c.fnAt 43 (d := hdD43) rfl (eqV_ok (c.b 17 6 rfl rfl)) rfl rfl
  obtain ⟨oc44, od44, dc44, pm44, an44, ct44, sl44, l44⟩ := c.fnAt 44 (d := hdD44) rfl (eqV_ok (c.b 17 11 rfl rfl)) (eqV_ok (c.b 17 12 rfl rfl)) rfl
  obtain ⟨oT44, mT44, slT44, pd44⟩ := tupC_ok (c.b 17 13 rfl rfl)
  obtain ⟨o_e44_0, m_e44_0, sl_e44_0, w_e44_0⟩ := tupC_ok (c.b 18 0 rfl rfl)
  obtain ⟨oc45, od45, dc45, pm45, an45, ct45, sl45, l45⟩ := c.fnAt 45 (d := hdD45) rfl (eqV_ok (c.b 18 5 rfl rfl)) rfl rfl
  obtain ⟨oc46, od46, dc46, pm46, an46, ct46, sl46, l46⟩ := c.fnAt 46 (d := hdD46) rfl (eqV_ok (c.b 18 9 rfl rfl)) rfl rfl
  obtain ⟨oc47, od47, dc47, pm47, an47, ct47, sl47, l47⟩ := c.fnAt 47 (d := hdD47) rfl (eqV_ok (c.b 18 14 rfl rfl)) (eqV_ok (c.b 18 15 rfl rfl)) rfl
  obtain ⟨oT47, mT47, slT47, pd47⟩ := tupC_ok (c.b 19 0 rfl rfl)
  obtain ⟨o_e47_0, m_e47_0, sl_e47_0, w_e47_0⟩ := tupC_ok (c.b 19 3 rfl rfl)
  obtain ⟨oc48, od48, dc48, pm48, an48, ct48, sl48, l48⟩ := c.fnAt 48 (d := hdD48) rfl (eqV_ok (c.b 19 8 rfl rfl)) rfl rfl
  obtain ⟨oc49, od49, dc49, pm49, an49, ct49, sl49, l49⟩ := c.fnAt 49 (d := hdD49) rfl (eqV_ok (c.b 19 13 rfl rfl)) rfl rfl
  obtain ⟨oc50, od50, dc50, pm50, an50, ct50, sl50, l50⟩ := c.fnAt 50 (d := hdD50) rfl (eqV_ok (c.b 20 2 rfl rfl)) (eqV_ok (c.b 20 3 rfl rfl)) rfl
  obtain ⟨o_e50_10, m_e50_10, sl_e50_10, w_e50_10⟩ := tupC_ok (c.b 20 8 rfl rfl)
  obtain ⟨o_e50_11, m_e50_11, sl_e50_11, w_e50_11⟩ := tupC_ok (c.b 20 9 rfl rfl)
  obtain ⟨o_e50_12, m_e50_12, sl_e50_12, w_e50_12⟩ := tupC_ok (c.b 20 10 rfl rfl)
  obtain ⟨o_e50_13, m_e50_13, sl_e50_13, w_e50_13⟩ := tupC_ok (c.b 20 11 rfl rfl)
  obtain ⟨oc51, od51, dc51, pm51, an51, ct51, sl51, l51⟩ := c.fnAt 51 (d := hdD51) rfl (eqV_ok (c.b 21 0 rfl rfl)) rfl rfl
  obtain ⟨oc52, od52, dc52, pm52, an52, ct52, sl52, l52⟩ := c.fnAt 52 (d := hdD52) rfl (eqV_ok (c.b 21 5 rfl rfl)) rfl rfl
  obtain ⟨oc53, od53, dc53, pm53, an53, ct53, sl53, l53⟩ := c.fnAt 53 (d := hdD53) rfl (eqV_ok (c.b 21 9 rfl rfl)) rfl rfl
  obtain ⟨oc54, od54, dc54, pm54, an54, ct54, sl54, l54⟩ := c.fnAt 54 (d := hdD54) rfl (eqV_ok (c.b 21 13 rfl rfl)) rfl rfl
  obtain ⟨oc55, od55, dc55, pm55, an55, ct55, sl55, l55⟩ := c.fnAt 55 (d := hdD55) rfl (eqV_ok (c.b 22 1 rfl rfl)) rfl rfl
  obtain ⟨oc56, od56, dc56, pm56, an56, ct56, sl56, l56⟩ := c.fnAt 56 (d := hdD56) rfl (eqV_ok (c.b 22 5 rfl rfl)) rfl rfl
  obtain ⟨oc57, od57, dc57, pm57, an57, ct57, sl57, l57⟩ := c.fnAt 57 (d := hdD57) rfl (eqV_ok (c.b 22 9 rfl rfl)) rfl rfl
  obtain ⟨oc58, od58, dc58, pm58, an58, ct58, sl58, l58⟩ := c.fnAt 58 (d := hdD58) rfl (eqV_ok (c.b 22 13 rfl rfl)) rfl rfl
  obtain ⟨oc59, od59, dc59, pm59, an59, ct59, sl59, l59⟩ := c.fnAt 59 (d := hdD59) rfl (eqV_ok (c.b 23 1 rfl rfl)) rfl rfl
  obtain ⟨oc60, od60, dc60, pm60, an60, ct60, sl60, l60⟩ := c.fnAt 60 (d := hdD60) rfl (eqV_ok (c.b 23 5 rfl rfl)) rfl rfl
  obtain ⟨oc61, od61, dc61, pm61, an61, ct61, sl61, l61⟩ := c.fnAt 61 (d := hdD61) rfl (eqV_ok (c.b 23 9 rfl rfl)) rfl rfl
  obtain ⟨oc62, od62, dc62, pm62, an62, ct62, sl62, l62⟩ := c.fnAt 62 (d := hdD62) rfl (eqV_ok (c.b 23 13 rfl rfl)) rfl rfl
  obtain ⟨oc63, od63, dc63, pm63, an63, ct63, sl63, l63⟩ := c.fnAt 63 (d := hdD63) rfl (eqV_ok (c.b 24 1 rfl rfl)) rfl rfl
  obtain ⟨oc64, od64, dc64, pm64, an64, ct64, sl64, l64⟩ := c.fnAt 64 (d := hdD64) rfl (eqV_ok (c.b 24 5 rfl rfl)) rfl (eqV_ok (c.b 24 6 rfl rfl))
  obtain ⟨eT, ddT, vsT, slT, t1, t2⟩ := fldC_ok (c.b 24 9 rfl rfl)
  obtain ⟨ocLE, odLE, dcLE, pmLE, anLE, ctLE, slLE, e7⟩ := c.fnAt 65 (d := hdD65) rfl (eqV_ok (c.b 25 0 rfl rfl)) rfl rfl
  obtain ⟨oD, mD, slD, e9⟩ := tupC_ok (c.b 25 2 rfl rfl)
  obtain ⟨_, _, _, _, _, _, _, _, _, _, _, _, _, _, _, o1BadBit, o2BadBit⟩ := clsC_ok (c.b 27 9 rfl rfl)
  obtain ⟨ocBadBit, odBadBit, dcBadBit, pmBadBit, anBadBit, ctBadBit, slBadBit, o8BadBit⟩ := c.fnAt 66 (d := hdD66) rfl (eqV_ok (c.b 27 15 rfl rfl)) rfl rfl
  obtain ⟨_, _, _, _, _, _, _, _, _, _, _, _, _, _, _, o1BadFrame, o2BadFrame⟩ := clsC_ok (c.b 28 3 rfl rfl)
  obtain ⟨ocBadFrame, odBadFrame, dcBadFrame, pmBadFrame, anBadFrame, ctBadFrame, slBadFrame, o8BadFrame⟩ := c.fnAt 67 (d := hdD67) rfl (eqV_ok (c.b 28 9 rfl rfl)) rfl rfl
  obtain ⟨_, _, _, _, _, _, _, _, _, _, _, _, _, _, _, o1BadCount, o2BadCount⟩ := clsC_ok (c.b 28 13 rfl rfl)
  obtain ⟨ocBadCount, odBadCount, dcBadCount, pmBadCount, anBadCount, ctBadCount, slBadCount, o8BadCount⟩ := c.fnAt 68 (d := hdD68) rfl (eqV_ok (c.b 29 3 rfl rfl)) rfl rfl
  obtain ⟨_, _, _, _, _, _, _, _, _, _, _, _, _, _, _, o1BadRate, o2BadRate⟩ := clsC_ok (c.b 29 7 rfl rfl)
  obtain ⟨ocBadRate, odBadRate, dcBadRate, pmBadRate, anBadRate, ctBadRate, slBadRate, o8BadRate⟩ := c.fnAt 69 (d := hdD69) rfl (eqV_ok (c.b 29 13 rfl rfl)) rfl rfl
  obtain ⟨_, _, _, _, _, _, _, _, _, _, _, _, _, _, _, o1BadTaps, o2BadTaps⟩ := clsC_ok (c.b 30 1 rfl rfl)
  obtain ⟨ocBadTaps, odBadTaps, dcBadTaps, pmBadTaps, anBadTaps, ctBadTaps, slBadTaps, o8BadTaps⟩ := c.fnAt 70 (d := hdD70) rfl (eqV_ok (c.b 30 7 rfl rfl)) rfl rfl
  obtain ⟨_, _, _, _, _, _, _, _, _, _, _, _, _, _, _, o1BadNoise, o2BadNoise⟩ := clsC_ok (c.b 30 11 rfl rfl)
  obtain ⟨ocBadNoise, odBadNoise, dcBadNoise, pmBadNoise, anBadNoise, ctBadNoise, slBadNoise, o8BadNoise⟩ := c.fnAt 71 (d := hdD71) rfl (eqV_ok (c.b 31 1 rfl rfl)) rfl rfl
  obtain ⟨o_TURNED, m_TURNED, sl_TURNED, w_TURNED⟩ := tupC_ok (c.b 32 10 rfl rfl)
  obtain ⟨o_MARK, m_MARK, sl_MARK, w_MARK⟩ := tupC_ok (c.b 32 14 rfl rfl)
  obtain ⟨o_RATES, m_RATES, sl_RATES, w_RATES⟩ := tupC_ok (c.b 33 1 rfl rfl)
  exact all_mk X G hfa (c.empty _ (.head _)) (eqOO_ok (c.b 0 0 rfl rfl)) (c.b 0 1 rfl rfl) (c.b 0 2 rfl rfl) (c.b 0 3 rfl rfl) (eqOO_ok (c.b 0 4 rfl rfl)) (c.b 0 5 rfl rfl) (c.b 0 6 rfl rfl) (eqOO_ok (c.b 0 7 rfl rfl)) (eqOO_ok (c.b 0 8 rfl rfl)) (eqOO_ok (c.b 0 9 rfl rfl)) (eqOO_ok (c.b 0 10 rfl rfl)) (c.b 0 11 rfl rfl) (c.b 0 12 rfl rfl) (c.b 0 13 rfl rfl) (eqOO_ok (c.b 0 14 rfl rfl)) (c.b 0 15 rfl rfl) (c.b 1 0 rfl rfl) (eqOO_ok (c.b 1 1 rfl rfl)) (eqOO_ok (c.b 1 2 rfl rfl)) (c.b 1 3 rfl rfl) (c.b 1 4 rfl rfl) (c.b 1 5 rfl rfl) (eqOO_ok (c.b 1 6 rfl rfl)) (c.b 1 7 rfl rfl) (c.b 1 8 rfl rfl) (eqOO_ok (c.b 1 9 rfl rfl)) (eqOO_ok (c.b 1 10 rfl rfl)) (c.b 1 11 rfl rfl) (c.b 1 12 rfl rfl) (c.b 1 13 rfl rfl) (eqOO_ok (c.b 1 14 rfl rfl)) (c.b 1 15 rfl rfl) (c.b 2 0 rfl rfl) (eqOO_ok (c.b 2 1 rfl rfl)) (eqOO_ok (c.b 2 2 rfl rfl)) (eqOO_ok (c.b 2 3 rfl rfl)) (c.b 2 4 rfl rfl) (c.b 2 5 rfl rfl) (c.b 2 6 rfl rfl) (eqOO_ok (c.b 2 7 rfl rfl)) (c.b 2 8 rfl rfl) (c.b 2 9 rfl rfl) (eqOO_ok (c.b 2 10 rfl rfl)) (eqOO_ok (c.b 2 11 rfl rfl)) (eqOO_ok (c.b 2 12 rfl rfl)) (eqOO_ok (c.b 2 13 rfl rfl)) (eqOO_ok (c.b 2 14 rfl rfl)) (c.b 2 15 rfl rfl) (c.b 3 0 rfl rfl) (c.b 3 1 rfl rfl) (eqOO_ok (c.b 3 2 rfl rfl)) (c.b 3 3 rfl rfl) (c.b 3 4 rfl rfl) (eqOO_ok (c.b 3 5 rfl rfl)) (eqOO_ok (c.b 3 6 rfl rfl)) (eqOO_ok (c.b 3 7 rfl rfl)) (eqOO_ok (c.b 3 8 rfl rfl)) (eqOO_ok (c.b 3 9 rfl rfl)) (eqOO_ok (c.b 3 10 rfl rfl)) (eqOO_ok (c.b 3 11 rfl rfl)) (c.b 3 12 rfl rfl) (c.b 3 13 rfl rfl) (c.b 3 14 rfl rfl) (eqOO_ok (c.b 3 15 rfl rfl)) (c.b 4 0 rfl rfl) (c.b 4 1 rfl rfl) (eqOO_ok (c.b 4 2 rfl rfl)) (eqOO_ok (c.b 4 3 rfl rfl)) (eqOO_ok (c.b 4 4 rfl rfl)) (eqOb_ok (c.b 4 5 rfl rfl)) (eqOO_ok (c.b 4 6 rfl rfl)) (eqOO_ok (c.b 4 7 rfl rfl)) (eqOO_ok (c.b 4 8 rfl rfl)) (eqOb_ok (c.b 4 9 rfl rfl)) (eqOb_ok (c.b 4 10 rfl rfl)) (eqOb_ok (c.b 4 11 rfl rfl)) (eqOb_ok (c.b 4 12 rfl rfl)) (eqOb_ok (c.b 4 13 rfl rfl)) (eqOb_ok (c.b 4 14 rfl rfl)) (eqOO_ok (c.b 4 15 rfl rfl)) l0 (c.b 5 1 rfl rfl) (c.b 5 2 rfl rfl) (eqOO_ok (c.b 5 3 rfl rfl)) l1 (c.b 5 5 rfl rfl) (c.b 5 6 rfl rfl) (eqOO_ok (c.b 5 7 rfl rfl)) l2 (c.b 5 9 rfl rfl) (c.b 5 10 rfl rfl) (eqOO_ok (c.b 5 11 rfl rfl)) l3 (c.b 5 13 rfl rfl) (c.b 5 14 rfl rfl) (eqOO_ok (c.b 5 15 rfl rfl)) l4 (c.b 6 1 rfl rfl) (c.b 6 2 rfl rfl) (eqOO_ok (c.b 6 3 rfl rfl)) l5 (c.b 6 5 rfl rfl) (c.b 6 6 rfl rfl) (eqOO_ok (c.b 6 7 rfl rfl)) l6 (c.b 6 9 rfl rfl) (c.b 6 10 rfl rfl) (eqOO_ok (c.b 6 11 rfl rfl)) l7 (c.b 6 13 rfl rfl) (c.b 6 14 rfl rfl) (eqOO_ok (c.b 6 15 rfl rfl)) (c.b 7 0 rfl rfl) l8 (c.b 7 2 rfl rfl) (c.b 7 3 rfl rfl) (eqOO_ok (c.b 7 4 rfl rfl)) (c.b 7 5 rfl rfl) l9 (c.b 7 7 rfl rfl) (c.b 7 8 rfl rfl) (eqOO_ok (c.b 7 9 rfl rfl)) (c.b 7 10 rfl rfl) l10 (c.b 7 12 rfl rfl) (c.b 7 13 rfl rfl) (eqOO_ok (c.b 7 14 rfl rfl)) (c.b 7 15 rfl rfl) l11 (c.b 8 1 rfl rfl) (c.b 8 2 rfl rfl) (eqOO_ok (c.b 8 3 rfl rfl)) (c.b 8 4 rfl rfl) l12 (c.b 8 6 rfl rfl) (c.b 8 7 rfl rfl) (eqOO_ok (c.b 8 8 rfl rfl)) l13 (c.b 8 10 rfl rfl) (c.b 8 11 rfl rfl) (eqOO_ok (c.b 8 12 rfl rfl)) l14 (c.b 8 14 rfl rfl) (c.b 8 15 rfl rfl) (eqOO_ok (c.b 9 0 rfl rfl)) l15 (c.b 9 2 rfl rfl) (c.b 9 3 rfl rfl) (eqOO_ok (c.b 9 4 rfl rfl)) l16 (c.b 9 6 rfl rfl) (c.b 9 7 rfl rfl) (eqOO_ok (c.b 9 8 rfl rfl)) l17 (c.b 9 10 rfl rfl) (c.b 9 11 rfl rfl) (eqOO_ok (c.b 9 12 rfl rfl)) l18 (eqOO_ok (c.b 9 15 rfl rfl)) (c.b 10 0 rfl rfl) (c.b 10 1 rfl rfl) (eqOO_ok (c.b 10 2 rfl rfl)) l19 (c.b 10 4 rfl rfl) (c.b 10 5 rfl rfl) (eqOO_ok (c.b 10 6 rfl rfl)) l20 (c.b 10 8 rfl rfl) (c.b 10 9 rfl rfl) (eqOO_ok (c.b 10 10 rfl rfl)) l21 (eqOO_ok (c.b 10 13 rfl rfl)) (c.b 10 14 rfl rfl) (c.b 10 15 rfl rfl) (eqOO_ok (c.b 11 0 rfl rfl)) l22 (c.b 11 2 rfl rfl) (c.b 11 3 rfl rfl) (eqOO_ok (c.b 11 4 rfl rfl)) l23 (c.b 11 6 rfl rfl) (c.b 11 7 rfl rfl) (eqOO_ok (c.b 11 8 rfl rfl)) l24 (c.b 11 10 rfl rfl) (c.b 11 11 rfl rfl) (eqOO_ok (c.b 11 12 rfl rfl)) l25 (c.b 11 14 rfl rfl) (c.b 11 15 rfl rfl) (eqOO_ok (c.b 12 0 rfl rfl)) l26 (c.b 12 2 rfl rfl) (c.b 12 3 rfl rfl) (eqOO_ok (c.b 12 4 rfl rfl)) l27 (eqOO_ok (c.b 12 7 rfl rfl)) (c.b 12 8 rfl rfl) (c.b 12 9 rfl rfl) (eqOO_ok (c.b 12 10 rfl rfl)) l28 (c.b 12 12 rfl rfl) (c.b 12 13 rfl rfl) (eqOO_ok (c.b 12 14 rfl rfl)) (c.b 12 15 rfl rfl) l29 (eqOO_ok (c.b 13 2 rfl rfl)) (c.b 13 3 rfl rfl) (c.b 13 4 rfl rfl) (eqOO_ok (c.b 13 5 rfl rfl)) (c.b 13 6 rfl rfl) l30 (c.b 13 8 rfl rfl) (c.b 13 9 rfl rfl) (eqOO_ok (c.b 13 10 rfl rfl)) (c.b 13 11 rfl rfl) l31 (c.b 13 13 rfl rfl) (c.b 13 14 rfl rfl) (eqOO_ok (c.b 13 15 rfl rfl)) (c.b 14 0 rfl rfl) l32 (eqOO_ok (c.b 14 3 rfl rfl)) (c.b 14 4 rfl rfl) (c.b 14 5 rfl rfl) (eqOO_ok (c.b 14 6 rfl rfl)) (c.b 14 7 rfl rfl) l33 (c.b 14 9 rfl rfl) (c.b 14 10 rfl rfl) (eqOO_ok (c.b 14 11 rfl rfl)) (c.b 14 12 rfl rfl) l34 (c.b 14 14 rfl rfl) (c.b 14 15 rfl rfl) (eqOO_ok (c.b 15 0 rfl rfl)) l35 (c.b 15 2 rfl rfl) (c.b 15 3 rfl rfl) (eqOO_ok (c.b 15 4 rfl rfl)) l36 (c.b 15 6 rfl rfl) (c.b 15 7 rfl rfl) (eqOO_ok (c.b 15 8 rfl rfl)) l37 (c.b 15 10 rfl rfl) (c.b 15 11 rfl rfl) (eqOO_ok (c.b 15 12 rfl rfl)) l38 (c.b 15 14 rfl rfl) (c.b 15 15 rfl rfl) (eqOO_ok (c.b 16 0 rfl rfl)) l39 (c.b 16 2 rfl rfl) (c.b 16 3 rfl rfl) (eqOO_ok (c.b 16 4 rfl rfl)) (c.b 16 5 rfl rfl) l40 pd40 w_e40_0 (c.b 16 9 rfl rfl) (c.b 16 10 rfl rfl) (eqOO_ok (c.b 16 11 rfl rfl)) (c.b 16 12 rfl rfl) l41 (c.b 16 14 rfl rfl) (c.b 16 15 rfl rfl) (eqOO_ok (c.b 17 0 rfl rfl)) (c.b 17 1 rfl rfl) l42 (c.b 17 3 rfl rfl) (c.b 17 4 rfl rfl) (eqOO_ok (c.b 17 5 rfl rfl)) l43 (c.b 17 7 rfl rfl) (c.b 17 8 rfl rfl) (eqOO_ok (c.b 17 9 rfl rfl)) (c.b 17 10 rfl rfl) l44 pd44 (eqOO_ok (c.b 17 14 rfl rfl)) (eqOO_ok (c.b 17 15 rfl rfl)) w_e44_0 (c.b 18 1 rfl rfl) (c.b 18 2 rfl rfl) (eqOO_ok (c.b 18 3 rfl rfl)) (c.b 18 4 rfl rfl) l45 (c.b 18 6 rfl rfl) (c.b 18 7 rfl rfl) (eqOO_ok (c.b 18 8 rfl rfl)) l46 (c.b 18 10 rfl rfl) (c.b 18 11 rfl rfl) (eqOO_ok (c.b 18 12 rfl rfl)) (c.b 18 13 rfl rfl) l47 pd47 (eqOO_ok (c.b 19 1 rfl rfl)) (eqOO_ok (c.b 19 2 rfl rfl)) w_e47_0 (c.b 19 4 rfl rfl) (c.b 19 5 rfl rfl) (eqOO_ok (c.b 19 6 rfl rfl)) (c.b 19 7 rfl rfl) l48 (c.b 19 9 rfl rfl) (c.b 19 10 rfl rfl) (eqOO_ok (c.b 19 11 rfl rfl)) (c.b 19 12 rfl rfl) l49 (c.b 19 14 rfl rfl) (c.b 19 15 rfl rfl) (eqOO_ok (c.b 20 0 rfl rfl)) (c.b 20 1 rfl rfl) l50 (eqOO_ok (c.b 20 4 rfl rfl)) (eqOO_ok (c.b 20 5 rfl rfl)) (eqOO_ok (c.b 20 6 rfl rfl)) (eqOO_ok (c.b 20 7 rfl rfl)) w_e50_10 w_e50_11 w_e50_12 w_e50_13 (c.b 20 12 rfl rfl) (c.b 20 13 rfl rfl) (eqOO_ok (c.b 20 14 rfl rfl)) (c.b 20 15 rfl rfl) l51 (c.b 21 1 rfl rfl) (c.b 21 2 rfl rfl) (eqOO_ok (c.b 21 3 rfl rfl)) (c.b 21 4 rfl rfl) l52 (c.b 21 6 rfl rfl) (c.b 21 7 rfl rfl) (eqOO_ok (c.b 21 8 rfl rfl)) l53 (c.b 21 10 rfl rfl) (c.b 21 11 rfl rfl) (eqOO_ok (c.b 21 12 rfl rfl)) l54 (c.b 21 14 rfl rfl) (c.b 21 15 rfl rfl) (eqOO_ok (c.b 22 0 rfl rfl)) l55 (c.b 22 2 rfl rfl) (c.b 22 3 rfl rfl) (eqOO_ok (c.b 22 4 rfl rfl)) l56 (c.b 22 6 rfl rfl) (c.b 22 7 rfl rfl) (eqOO_ok (c.b 22 8 rfl rfl)) l57 (c.b 22 10 rfl rfl) (c.b 22 11 rfl rfl) (eqOO_ok (c.b 22 12 rfl rfl)) l58 (c.b 22 14 rfl rfl) (c.b 22 15 rfl rfl) (eqOO_ok (c.b 23 0 rfl rfl)) l59 (c.b 23 2 rfl rfl) (c.b 23 3 rfl rfl) (eqOO_ok (c.b 23 4 rfl rfl)) l60 (c.b 23 6 rfl rfl) (c.b 23 7 rfl rfl) (eqOO_ok (c.b 23 8 rfl rfl)) l61 (c.b 23 10 rfl rfl) (c.b 23 11 rfl rfl) (eqOO_ok (c.b 23 12 rfl rfl)) l62 (c.b 23 14 rfl rfl) (c.b 23 15 rfl rfl) (eqOO_ok (c.b 24 0 rfl rfl)) l63 (c.b 24 2 rfl rfl) (c.b 24 3 rfl rfl) (eqOO_ok (c.b 24 4 rfl rfl)) l64 (c.b 24 7 rfl rfl) (c.b 24 8 rfl rfl) t1 t2 (c.hd _ (.head _)) (c.out _ (.head _)) (eqOO_ok (c.b 24 10 rfl rfl)) (eqOO_ok (c.b 24 11 rfl rfl)) (eqOV_ok (c.b 24 12 rfl rfl)) (c.b 24 13 rfl rfl) (valIs_ok (c.b 24 14 rfl rfl)) (c.b 24 15 rfl rfl) e7 (c.b 25 1 rfl rfl) e9 (valIs_ok (c.b 25 3 rfl rfl)) (eqOO_ok (c.b 25 4 rfl rfl)) (eqOO_ok (c.b 25 5 rfl rfl)) (eqOO_ok (c.b 25 6 rfl rfl)) (eqOO_ok (c.b 25 7 rfl rfl)) (eqOb_ok (c.b 25 8 rfl rfl)) (c.b 25 9 rfl rfl) (eqOO_ok (c.b 25 10 rfl rfl)) (eqOO_ok (c.b 25 11 rfl rfl)) (eqOO_ok (c.b 25 12 rfl rfl)) (eqOO_ok (c.b 25 13 rfl rfl)) (eqOb_ok (c.b 25 14 rfl rfl)) (c.b 25 15 rfl rfl) (eqOO_ok (c.b 26 0 rfl rfl)) (eqOO_ok (c.b 26 1 rfl rfl)) (eqOO_ok (c.b 26 2 rfl rfl)) (eqOO_ok (c.b 26 3 rfl rfl)) (eqOb_ok (c.b 26 4 rfl rfl)) (c.b 26 5 rfl rfl) (eqOO_ok (c.b 26 6 rfl rfl)) (eqOO_ok (c.b 26 7 rfl rfl)) (eqOO_ok (c.b 26 8 rfl rfl)) (eqOb_ok (c.b 26 9 rfl rfl)) (c.b 26 10 rfl rfl) (eqOO_ok (c.b 26 11 rfl rfl)) (eqOO_ok (c.b 26 12 rfl rfl)) (eqOO_ok (c.b 26 13 rfl rfl)) (eqOb_ok (c.b 26 14 rfl rfl)) (c.b 26 15 rfl rfl) (eqOO_ok (c.b 27 0 rfl rfl)) (eqOO_ok (c.b 27 1 rfl rfl)) (eqOO_ok (c.b 27 2 rfl rfl)) (eqOb_ok (c.b 27 3 rfl rfl)) (c.b 27 4 rfl rfl) (eqOO_ok (c.b 27 5 rfl rfl)) (eqOb_ok (c.b 27 6 rfl rfl)) (eqOb_ok (c.b 27 7 rfl rfl)) (eqOb_ok (c.b 27 8 rfl rfl)) o1BadBit o2BadBit (eqOO_ok (c.b 27 10 rfl rfl)) (eqOV_ok (c.b 27 11 rfl rfl)) (c.b 27 12 rfl rfl) (eqOO_ok (c.b 27 13 rfl rfl)) (eqOV_ok (c.b 27 14 rfl rfl)) o8BadBit (c.b 28 0 rfl rfl) (c.b 28 1 rfl rfl) (eqOO_ok (c.b 28 2 rfl rfl)) o1BadFrame o2BadFrame (eqOO_ok (c.b 28 4 rfl rfl)) (eqOV_ok (c.b 28 5 rfl rfl)) (c.b 28 6 rfl rfl) (eqOO_ok (c.b 28 7 rfl rfl)) (eqOV_ok (c.b 28 8 rfl rfl)) o8BadFrame (c.b 28 10 rfl rfl) (c.b 28 11 rfl rfl) (eqOO_ok (c.b 28 12 rfl rfl)) o1BadCount o2BadCount (eqOO_ok (c.b 28 14 rfl rfl)) (eqOV_ok (c.b 28 15 rfl rfl)) (c.b 29 0 rfl rfl) (eqOO_ok (c.b 29 1 rfl rfl)) (eqOV_ok (c.b 29 2 rfl rfl)) o8BadCount (c.b 29 4 rfl rfl) (c.b 29 5 rfl rfl) (eqOO_ok (c.b 29 6 rfl rfl)) o1BadRate o2BadRate (eqOO_ok (c.b 29 8 rfl rfl)) (eqOV_ok (c.b 29 9 rfl rfl)) (c.b 29 10 rfl rfl) (eqOO_ok (c.b 29 11 rfl rfl)) (eqOV_ok (c.b 29 12 rfl rfl)) o8BadRate (c.b 29 14 rfl rfl) (c.b 29 15 rfl rfl) (eqOO_ok (c.b 30 0 rfl rfl)) o1BadTaps o2BadTaps (eqOO_ok (c.b 30 2 rfl rfl)) (eqOV_ok (c.b 30 3 rfl rfl)) (c.b 30 4 rfl rfl) (eqOO_ok (c.b 30 5 rfl rfl)) (eqOV_ok (c.b 30 6 rfl rfl)) o8BadTaps (c.b 30 8 rfl rfl) (c.b 30 9 rfl rfl) (eqOO_ok (c.b 30 10 rfl rfl)) o1BadNoise o2BadNoise (eqOO_ok (c.b 30 12 rfl rfl)) (eqOV_ok (c.b 30 13 rfl rfl)) (c.b 30 14 rfl rfl) (eqOO_ok (c.b 30 15 rfl rfl)) (eqOV_ok (c.b 31 0 rfl rfl)) o8BadNoise (c.b 31 2 rfl rfl) (c.b 31 3 rfl rfl) (eqOO_ok (c.b 31 4 rfl rfl)) (eqOO_ok (c.b 31 5 rfl rfl)) (eqOO_ok (c.b 31 6 rfl rfl)) (eqOO_ok (c.b 31 7 rfl rfl)) (eqOO_ok (c.b 31 8 rfl rfl)) (eqOO_ok (c.b 31 9 rfl rfl)) (eqOO_ok (c.b 31 10 rfl rfl)) (eqOO_ok (c.b 31 11 rfl rfl)) (eqOO_ok (c.b 31 12 rfl rfl)) (eqOO_ok (c.b 31 13 rfl rfl)) (eqOO_ok (c.b 31 14 rfl rfl)) (eqOO_ok (c.b 31 15 rfl rfl)) (eqOO_ok (c.b 32 0 rfl rfl)) (eqOO_ok (c.b 32 1 rfl rfl)) (eqOO_ok (c.b 32 2 rfl rfl)) (eqOO_ok (c.b 32 3 rfl rfl)) (eqOO_ok (c.b 32 4 rfl rfl)) (eqOO_ok (c.b 32 5 rfl rfl)) (eqOO_ok (c.b 32 6 rfl rfl)) (eqOO_ok (c.b 32 7 rfl rfl)) (eqOO_ok (c.b 32 8 rfl rfl)) (eqOO_ok (c.b 32 9 rfl rfl)) w_TURNED (eqOO_ok (c.b 32 11 rfl rfl)) (eqOO_ok (c.b 32 12 rfl rfl)) (eqOO_ok (c.b 32 13 rfl rfl)) w_MARK (eqOO_ok (c.b 32 15 rfl rfl)) (eqOO_ok (c.b 33 0 rfl rfl)) w_RATES (eqOO_ok (c.b 33 2 rfl rfl)) (eqOO_ok (c.b 33 3 rfl rfl)) (eqOO_ok (c.b 33 4 rfl rfl)) (eqOO_ok (c.b 33 5 rfl rfl)) (eqOO_ok (c.b 33 6 rfl rfl)) (eqOO_ok (c.b 33 7 rfl rfl)) (eqOO_ok (c.b 33 8 rfl rfl)) (eqOO_ok (c.b 33 9 rfl rfl)) (eqOO_ok (c.b 33 10 rfl rfl))
end WB
open PySem PySem.W PySem.Calls PyProof.Rows
set_option maxRecDepth 100000 in
set_option maxHeartbeats 0 in
theorem PySem.Challenge.cw_warbleline_k30_wires_and_shapers_refused_holds : PySem.Challenge.rw_warbleline_k30_wires_and_shapers_refused.Holds := by
  w_on; o_law
  refine HandSHeadRun.head_any (r := OpenLaw.row PySem.Challenge.rw_warbleline_k30_wires_and_shapers_refused) (q := WB.hdq) (H := WB.hdH) (ob := WB.hdO) (M := 12000) (loose := WB.hdN) (d := HandSHeadRun.topDef (OpenLaw.row PySem.Challenge.rw_warbleline_k30_wires_and_shapers_refused).prog 95) (kwd := []) WB.hdO_eq
    (by kernel_rfl) (fun s => by kernel_rfl) WB.hd_run (by kernel_rfl) (by kernel_rfl) (by kernel_rfl) (by rfl) (by first | assumption | decide +kernel) (by decide +kernel) ⟨rfl, rfl, rfl, rfl, rfl, by decide +kernel⟩ ?hw ?hc
  case hw => w_witness2
  case hc =>
    refine LamX.walk_ofTsE (l := PySem.Challenge.rw_warbleline_k30_wires_and_shapers_refused) (n := 63) (k := 15) (x := "_law_script") (CX := fun _ => L2.CX0) rfl (by decide) (by kernel_rfl) ⟨rfl, by decide, by decide⟩ ?F (fun _ _ _ _ _ z => z)
    intro w mg fa h Y G hmg0
    obtain ⟨K, KX, c⟩ := Y
    have hmg : mg ("law" : PySem.Str) = some (.ref fa) := by
      have e : (HandSHeadRun.topDef (OpenLaw.row PySem.Challenge.rw_warbleline_k30_wires_and_shapers_refused).prog 95).name = ("law" : PySem.Str) := by kernel_rfl
      rw [← e]
      exact hmg0
    exact ⟨K, KX, WB.hd_facts KX G hmg c⟩
