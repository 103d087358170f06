import PyProof.Rows.All
import HandS.Property
import HandS.HeadWalk
import PySem.Challenge.RW_wipedtalk_k05_runs_walked
import Wide.All
import OpenK.AllK
import Wide.FinOn
import KE.KStateDown
import HandS.ForExc
import HandS.Defaults
import HandS.More
import HandS.Head0
import HandS.Head1
import HandS.Head2
import HandS.HeadEnd
import HandS.HeadHook1
import HandS.HeadHook2
import HandS.HeadHook3
import HandS.HeadHook4
import HandS.HeadNt
import KE.KLam
import HandS.Comp
import HandS.Iter
import HandS.Lambda
import HandS.Nested
import PyProof.Draws
import PyProof.EnumMake
import KE.GoesMore
import KE.GoesEnum
import HandS.ForMost
import HandS.Walk
import HandS.Conv
import HandS.Wide
import HandS.TupMul
import HandS.TupAny
import HandS.IsInst
import HandS.MakeKwOnly
import HandS.OwnEq
import HandS.SlotsOwn
import HandS.TupLe
import HandS.Flow
set_option Elab.async false
set_option linter.all false
set_option maxRecDepth 100000
set_option maxHeartbeats 0

set_option Elab.async false
set_option linter.all false
set_option maxRecDepth 100000
set_option maxHeartbeats 4000000
/-! The head's facts by one look: globals, classes, methods, getters of properties, tables of code objects, Bools of one's own. -/
namespace WH
open PySem PySem.Spec PyProof.Rows L2 He
abbrev Ex : Type := PySem.W.Frag → Bool
abbrev AlW : Type := AlD × (List He.FnW × Bool)
def obsW (n : Nat) (fa : List Fa) (fn : List DefD) (pa : List He5.DefA) (tf : List Defn) (exs : List Ex) (g : Addr → Option Obj) : AlW :=
  (obsD fa fn (frT g (asD g n)), (pa.map fun d => He5.fnA (frT g (asD g n)) (d.at_ (frT g (asD g n)))), (exs.all fun e => e (frT g (asD g n))) && ((pa.all fun d => d.ok (frT g (asD g n))) && tabsB g tf (frT g (asD g n))))
def valW (fn : List DefD) (pa : List He5.DefA) : AlW := (valD fn, pa.map He5.DefA.val, true)
structure SaysW (fa : List Fa) (fn : List DefD) (pa : List He5.DefA) (tf : List Defn) (exs : List Ex) (h : Heap) (K : PySem.W.Frag) : Prop where
  d : SaysD fa fn K
  p : pa.map (fun d => He5.fnA K (d.at_ K)) = pa.map He5.DefA.val
  pok : ∀ d ∈ pa, d.ok K = true
  more : ∀ e ∈ exs, e K = true
  hd : ∀ p ∈ tf, PySem.W.codeHdIn K (cT K p).1 (cT K p).2 = true
  out : ∀ p ∈ tf, K.lookup (cT K p).2 = none
  empty : ∀ p ∈ tf, h.get? (cT K p).2 = some { cls := .none, data := .fields #[] }
theorem saysW_of {n : Nat} {fa : List Fa} {fn : List DefD} {pa : List He5.DefA} {tf : List Defn} {exs : List Ex} {h : Heap} (e : obsW n fa fn pa tf exs h.get? = valW fn pa) : SaysW fa fn pa tf exs h (frT h.get? (asD h.get? n)) := by
  have e1 : obsD fa fn (frT h.get? (asD h.get? n)) = valD fn := congrArg (fun z : AlW => z.1) e
  have e3 : (pa.map fun d => He5.fnA (frT h.get? (asD h.get? n)) (d.at_ (frT h.get? (asD h.get? n)))) = pa.map He5.DefA.val := congrArg (fun z : AlW => z.2.1) e
  have e2 : ((exs.all fun e => e (frT h.get? (asD h.get? n))) && ((pa.all fun d => d.ok (frT h.get? (asD h.get? n))) && tabsB h.get? tf (frT h.get? (asD h.get? n)))) = true := congrArg (fun z : AlW => z.2.2) e
  obtain ⟨h1, h2⟩ := ba e2
  obtain ⟨h5, h2⟩ := ba h2
  have key : ∀ p ∈ tf, PySem.W.codeHdIn (frT h.get? (asD h.get? n)) (cT (frT h.get? (asD h.get? n)) p).1 (cT (frT h.get? (asD h.get? n)) p).2 = true ∧ ∃ o, h.get? (cT (frT h.get? (asD h.get? n)) p).2 = some o ∧ emptyTab o = true := fun p hp => by
    obtain ⟨h3, h4⟩ := ba (List.all_eq_true.mp h2 p hp)
    refine ⟨h3, ?_⟩
    cases q : h.get? (cT (frT h.get? (asD h.get? n)) p).2 with
    | none =>
      rw [q] at h4
      cases h4
    | some o =>
      rw [q] at h4
      exact ⟨o, rfl, h4⟩
  exact ⟨e1, e3, List.all_eq_true.mp h5, List.all_eq_true.mp h1, fun p hp => (key p hp).1, fun p hp => by
    obtain ⟨_, o, q, z⟩ := key p hp
    exact frT_none q z, fun p hp => by
    obtain ⟨_, o, q, z⟩ := key p hp
    rw [q, emptyTab_eq z]⟩
def hookW (n : Nat) (fa : List Fa) (fn : List DefD) (pa : List He5.DefA) (tf : List Defn) (exs : List Ex) : PySem.W.Hook where
  α := AlW
  obs := fun s => obsW n fa fn pa tf exs s.heap.get?
  val := fun _ => valW fn pa
  says := fun _ h => ∃ K : PySem.W.Frag, K.In h ∧ SaysW fa fn pa tf exs h K
  of := fun _ _ e => ⟨_, frT_in, saysW_of e⟩
  keeps := fun _ _ _ ⟨K, hK, c⟩ k => ⟨K, PySem.W.Frag.In.keeps hK k, ⟨c.d, c.p, c.pok, c.more, c.hd, c.out, fun p hp => k _ _ (c.empty p hp)⟩⟩
theorem obsW_eq {n : Nat} {fa : List Fa} {fn : List DefD} {pa : List He5.DefA} {tf : List Defn} {exs : List Ex} {g : Addr → Option Obj} {s : Shared} (h : ∀ a, g a = s.heap.get? a) : obsW n fa fn pa tf exs g = (hookW n fa fn pa tf exs).obs s := by
  have e : g = s.heap.get? := funext h
  rw [e] <;> rfl
section
variable {fa : List Fa} {fn : List DefD} {pa : List He5.DefA} {tf : List Defn} {exs : List Ex} {h : Heap} {K : PySem.W.Frag}
theorem SaysW.get (c : SaysW fa fn pa tf exs h K) (i : Nat) {d : He5.DefA} (h : pa[i]? = some d := by rfl) : ∃ fd, FunD K d.name d.qual d.params d.body d.scope (d.dvs K) (d.kws K) (d.at_ K) fd := by
  have e2 : (pa.map fun d => He5.fnA K (d.at_ K))[i]? = (pa.map He5.DefA.val)[i]? := by rw [c.p]
  rw [List.getElem?_map, List.getElem?_map, h] at e2
  exact He5.DefA.funD (Option.some.inj e2) (c.pok d (List.mem_of_getElem? h))
theorem SaysW.ex (c : SaysW fa fn pa tf exs h K) (i : Nat) {e : Ex} (h : exs[i]? = some e := by rfl) : e K = true := c.more e (List.mem_of_getElem? h)
end
/-! ### a property -/
/-- the getter -/
def pget (C f : Str) (K : PySem.W.Frag) : Addr := match PySem.W.recIn K (ma K (ga K C) f) "property" with
  | some (.ref g :: _) => g
  | _ => 0
def propB (C f : Str) : Ex := fun K => eqO (PySem.W.findIn K (.ref (ga K C)) f) (some (some (.ref (ma K (ga K C) f)))) && (eqO (PySem.W.specialIn K (.ref (ma K (ga K C) f)) "__get__") (some (some (.builtin "property.__get__"))) &&
  (decide (PySem.W.takesIn K (.ref (ma K (ga K C) f)) = some true) && (match PySem.W.recIn K (ma K (ga K C) f) "property" with
    | some (.ref _ :: _) => true
    | _ => false)))
end WH

set_option linter.all false
namespace LW
open PySem PySem.Spec PyProof.Rows L2
def top (i : Nat) : Stmt := PySem.Challenge.pw_wipedtalk_k05_runs_walked.main.body.getD i (.Pass ⟨0, 0, 0, 0⟩)
abbrev s_InvalidNumber_init : Stmt := inClass (top 2) 0
-- InvalidNumber.__init__ N=['self', 'thing']
abbrev s_InvalidTable_init : Stmt := inClass (top 3) 0
-- InvalidTable.__init__ N=['self', 'name', 'row']
abbrev s_InvalidProgram_init : Stmt := inClass (top 4) 0
-- InvalidProgram.__init__ N=['self', 'thing']
abbrev s_InvalidPair_init : Stmt := inClass (top 5) 0
-- InvalidPair.__init__ N=['self', 'thing']
abbrev s_InvalidEvent_init : Stmt := inClass (top 6) 0
-- InvalidEvent.__init__ N=['self', 'place']
abbrev s_NotPossible_init : Stmt := inClass (top 8) 0
-- NotPossible.__init__ N=['self', 'place']
abbrev s_is_integer_from : Stmt := top 10
-- is_integer_from  N=['thing', 'low']
abbrev s_is_below : Stmt := top 11
-- is_below  N=['thing', 'limit']
abbrev s_is_none_or_below : Stmt := top 12
-- is_none_or_below  N=['thing', 'limit']
abbrev s_is_list : Stmt := top 13
-- is_list  N=['thing']
abbrev s_check_number : Stmt := top 14
-- check_number  N=['thing', 'low']
abbrev s_check_counts : Stmt := top 16
-- check_counts  N=['value_count', 'forward', 'backward']
abbrev s_state_count : Stmt := top 17
-- state_count  N=['sends']
abbrev s_checked_table : Stmt := top 18
-- checked_table  N=['name', 'table', 'size', 'fits', 'row', 'item']
abbrev s_message_table : Stmt := top 19
-- message_table  N=['table', 'size', 'messages']
abbrev s_state_table : Stmt := top 20
-- state_table  N=['name', 'table', 'size']
abbrev s_are_states : Stmt := top 21
-- are_states  N=['item', 'many', 'size', 'state']
abbrev s_hearing_table : Stmt := top 22
-- hearing_table  N=['table', 'size', 'messages']
abbrev s_taking_table : Stmt := top 23
-- taking_table  N=['table', 'size', 'value_count']
abbrev s_are_gifts : Stmt := top 24
-- are_gifts  N=['item', 'many', 'value_count', 'value']
abbrev s_giving_table : Stmt := top 25
-- giving_table  N=['table', 'size', 'messages', 'value_count']
abbrev s_Sender_init : Stmt := inClass (top 26) 0
-- Sender.__init__ N=['self', 'value_count', 'forward', 'backward', 'sends', 'ticks', 'hears', 'takes', 'crashes', 'size']
abbrev s_Sender_value_count : Stmt := inClass (top 26) 1
-- Sender.value_count N=['self']
abbrev s_Sender_forward : Stmt := inClass (top 26) 2
-- Sender.forward N=['self']
abbrev s_Sender_backward : Stmt := inClass (top 26) 3
-- Sender.backward N=['self']
abbrev s_Sender_sends : Stmt := inClass (top 26) 4
-- Sender.sends N=['self']
abbrev s_Sender_ticks : Stmt := inClass (top 26) 5
-- Sender.ticks N=['self']
abbrev s_Sender_hears : Stmt := inClass (top 26) 6
-- Sender.hears N=['self']
abbrev s_Sender_takes : Stmt := inClass (top 26) 7
-- Sender.takes N=['self']
abbrev s_Sender_crashes : Stmt := inClass (top 26) 8
-- Sender.crashes N=['self']
abbrev s_Sender_eq : Stmt := inClass (top 26) 9
-- Sender.__eq__ N=['self', 'other']
abbrev s_Receiver_init : Stmt := inClass (top 27) 0
-- Receiver.__init__ N=['self', 'value_count', 'forward', 'backward', 'sends', 'ticks', 'hears', 'gives', 'crashes', 'size']
abbrev s_Receiver_value_count : Stmt := inClass (top 27) 1
-- Receiver.value_count N=['self']
abbrev s_Receiver_forward : Stmt := inClass (top 27) 2
-- Receiver.forward N=['self']
abbrev s_Receiver_backward : Stmt := inClass (top 27) 3
-- Receiver.backward N=['self']
abbrev s_Receiver_sends : Stmt := inClass (top 27) 4
-- Receiver.sends N=['self']
abbrev s_Receiver_ticks : Stmt := inClass (top 27) 5
-- Receiver.ticks N=['self']
abbrev s_Receiver_hears : Stmt := inClass (top 27) 6
-- Receiver.hears N=['self']
abbrev s_Receiver_gives : Stmt := inClass (top 27) 7
-- Receiver.gives N=['self']
abbrev s_Receiver_crashes : Stmt := inClass (top 27) 8
-- Receiver.crashes N=['self']
abbrev s_Receiver_eq : Stmt := inClass (top 27) 9
-- Receiver.__eq__ N=['self', 'other']
abbrev s_counts : Stmt := top 28
-- counts  N=['program']
abbrev s_Pair_init : Stmt := inClass (top 29) 0
-- Pair.__init__ N=['self', 'sender', 'receiver']
abbrev s_Pair_sender : Stmt := inClass (top 29) 1
-- Pair.sender N=['self']
abbrev s_Pair_receiver : Stmt := inClass (top 29) 2
-- Pair.receiver N=['self']
abbrev s_Pair_eq : Stmt := inClass (top 29) 3
-- Pair.__eq__ N=['self', 'other']
abbrev s_check_pair : Stmt := top 30
-- check_pair  N=['pair']
abbrev s_is_event : Stmt := top 34
-- is_event  N=['pair', 'thing']
abbrev s_Talk_init : Stmt := inClass (top 35) 0
-- Talk.__init__ N=['self', 'pair']
abbrev s_Talk_is_free : Stmt := inClass (top 35) 1
-- Talk.is_free N=['self']
abbrev s_Talk_allows : Stmt := inClass (top 35) 2
-- Talk.allows N=['self', 'event']
abbrev s_Talk_step : Stmt := inClass (top 35) 3
-- Talk.step N=['self', 'event']
abbrev s_Talk_send : Stmt := inClass (top 35) 4
-- Talk.send N=['self', 'message']
abbrev s_Talk_answer : Stmt := inClass (top 35) 5
-- Talk.answer N=['self', 'message']
abbrev s_Talk_pass_forward : Stmt := inClass (top 35) 6
-- Talk.pass_forward N=['self', 'message', 'value']
abbrev s_Talk_pass_backward : Stmt := inClass (top 35) 7
-- Talk.pass_backward N=['self', 'message']
abbrev s_Talk_crash : Stmt := inClass (top 35) 8
-- Talk.crash N=['self', 'program']
abbrev s_moment_of : Stmt := top 36
-- moment_of  N=['talk', 'forward', 'backward']
abbrev s_check_events : Stmt := top 37
-- check_events  N=['pair', 'run', 'place', 'event']
abbrev s_walk : Stmt := top 38
-- walk  N=['pair', 'run', 'talk', 'outcomes', 'place', 'event']
abbrev s_walked : Stmt := top 39
-- walked  N=['pair', 'run', 'talk', '_']
abbrev s_delivered : Stmt := top 40
-- delivered  N=['pair', 'run', '_', 'outcomes', 'value']
abbrev s_possible : Stmt := top 41
-- possible  N=['pair', 'run', 'talk', '_', 'events', 'channel', 'value', 'place']
abbrev s_law_mixed : Stmt := top 43
-- law_mixed  N=['cell', 'k', 'stirred']
abbrev s_law_purse : Stmt := top 44
-- law_purse  N=['cells', 'at', 'cell']
abbrev s_law_draw : Stmt := top 45
-- law_draw  N=['purse', 'out_of', 'drawn']
abbrev s_law_great : Stmt := top 46
-- law_great  N=['purse', 'figures', 'found', 'lap']
abbrev s_law_row : Stmt := top 47
-- law_row  N=['purse', 'many', 'most', 'lap']
abbrev s_law_falls : Stmt := top 48
-- law_falls  N=['purse', 'many', 'pace']
abbrev s_law_letters : Stmt := top 49
-- law_letters  N=['purse', 'many', 'most', 'lap']
abbrev s_law_sender : Stmt := top 50
-- law_sender  N=['purse', 'sizes', 'top', 'many', 'heard', 'taken', 'steps', 'lap', 'one']
abbrev s_law_receiver : Stmt := top 51
-- law_receiver  N=['purse', 'sizes', 'top', 'many', 'heard', 'given_out', 'lap', 'row', 'steps', 'kind']
abbrev s_law_turns : Stmt := top 52
-- law_turns  N=['is_kept', 'sender', 'receiver', 'falls']
abbrev s_law_greets : Stmt := top 53
-- law_greets  N=['is_mute', 'sender', 'receiver']
abbrev s_law_repeats : Stmt := top 54
-- law_repeats  N=['many', 'sender']
abbrev s_law_raw : Stmt := top 55
-- law_raw  N=['purse', 'pace', 'sizes']
abbrev s_law_made_sender : Stmt := top 56
-- law_made_sender  N=['sizes', 'one']
abbrev s_law_made_receiver : Stmt := top 57
-- law_made_receiver  N=['sizes', 'one', 'many', 'there', 'back']
abbrev s_law_made : Stmt := top 58
-- law_made  N=['raw']
abbrev s_law_tick : Stmt := top 59
-- law_tick  N=['table', 'at', 'line', 'letter']
abbrev s_law_step : Stmt := top 60
-- law_step  N=['raw', 'stand', 'deed', 'a', 'b', 'there', 'back', 'word', 'value']
abbrev s_law_deeds : Stmt := top 61
-- law_deeds  N=['raw', 'stand', 'found', 'value', 'at']
abbrev s_law_led : Stmt := top 62
-- law_led  N=['purse', 'raw', 'many', 'stand', 'found', 'lap', 'some', 'likely', 'deed']
abbrev s_law_walk : Stmt := top 63
-- law_walk  N=['raw', 'deeds', 'stand', 'found', 'at', 'deed', 'value']
abbrev s_law_duos : Stmt := top 64
-- law_duos  N=['raw', 'made', 'mute', 'raws', 'beside', 'side', 'one']
abbrev s_law_run_right : Stmt := top 65
-- law_run_right  N=['raw', 'made', 'deeds', 'stand', 'found', 'at', 'value']
abbrev s_law_right : Stmt := top 66
-- law_right  N=['purse', 'raw', 'made', 'deeds', 'stand', 'found', 'told', 'some', 'more', 'grown', 'deed', 'raws', 'duos', 'at', 'value']
abbrev s_law : Stmt := top 67
-- law  N=['script', 'at', 'purse', 'lap', 'made', 'deeds', 'told']
end LW

set_option Elab.async false
set_option linter.all false
set_option maxRecDepth 100000
set_option maxHeartbeats 0
namespace LW
open PySem PySem.Spec PyProof.Rows L2
def clsIB (C : Str) : WH.Ex := fun K => He.eqO (PySem.W.findIn K (.ref (He.ga K C)) "__class__") (some (some (.builtin "object.__class__"))) && (He.eqO (PySem.W.specialIn K (.builtin "object.__class__") "__get__") (some (some (.builtin "getset_descriptor.__get__"))) && (decide (PySem.W.takesIn K (.builtin "object.__class__") = some true) && decide (PySem.W.mroIn K (He.ga K C) (.type "object") = some true)))
def neB (C : Str) : WH.Ex := fun K => He.eqO (PySem.W.findIn K (.ref (He.ga K C)) "__ne__") (some (some (.builtin "object.__ne__"))) && decide (PySem.W.mroIn K (He.ga K C) (.type "object") = some true)
def awayB (C : Str) : WH.Ex := fun K => decide (PySem.W.subIn K (.ref (He.ga K C)) (.type "NoneType") = some false) && (decide (PySem.W.subIn K (.ref (He.ga K C)) (.type "int") = some false) && decide (PySem.W.subIn K (.ref (He.ga K C)) (.type "str") = some false))
def kitLB (C : Str) : WH.Ex := fun K => decide (PySem.W.kitOne K (.type "NoneType") (.ref (He.ga K C)) = some false) && (decide (PySem.W.kitOne K (.type "int") (.ref (He.ga K C)) = some false) && decide (PySem.W.kitOne K (.type "str") (.ref (He.ga K C)) = some false))
def kitCB (C D : Str) : WH.Ex := fun K => decide (PySem.W.kitOne K (.ref (He.ga K C)) (.ref (He.ga K D)) = some false)
def notB (C D : Str) : WH.Ex := fun K => PySem.W.notFirst K (He.ga K C) (.ref (He.ga K D))
def tupB (C : Str) : WH.Ex := fun K => PySem.W.notFirst K (He.ga K C) (.type "tuple") && decide (PySem.W.kitOne K (.type "tuple") (.ref (He.ga K C)) = some false)
def distB (tf : List He.Defn) : WH.Ex := fun K => tf.all fun p => tf.all fun q => decide (p.1 = q.1) || !decide ((He.cT K p).2 = (He.cT K q).2)
def strV : Value → Option Str
  | .str x _ => some x
  | _ => none
def tupItems (K : PySem.W.Frag) (a : Addr) : Option (List Value) := match K.lookup a with
  | some ⟨.type n, _, .seq its _, _⟩ => if n == "tuple" && decide (its.size ≤ 1000) then some its.toList else none
  | _ => none
def strsAt (K : PySem.W.Frag) (v : Value) (zs : List Str) : Bool := match v with
  | .ref a => match tupItems K a with
    | some vs => decide (vs.map strV = zs.map some)
    | none => false
  | _ => false
def tup1B (x : Str) (zs : List Str) : WH.Ex := fun K => strsAt K (.ref (He.ga K x)) zs
def allAt (K : PySem.W.Frag) : List Value → List (List Str) → Bool
  | [], [] => true
  | v :: vs, zs :: zss => strsAt K v zs && allAt K vs zss
  | _, _ => false
def tup2B (x : Str) (zss : List (List Str)) : WH.Ex := fun K => match tupItems K (He.ga K x) with
  | some vs => allAt K vs zss
  | none => false
end LW

set_option Elab.async false
set_option linter.all false
set_option maxRecDepth 100000
set_option maxHeartbeats 0
namespace HD
open PySem PySem.Spec PyProof.Rows L2 LW
def d0 : He.DefD := ⟨("InvalidNumber", some "__init__"), "__init__", "InvalidNumber.__init__", defArgs s_InvalidNumber_init, defBody s_InvalidNumber_init, defScope s_InvalidNumber_init, [], []⟩
def d1 : He.DefD := ⟨("InvalidTable", some "__init__"), "__init__", "InvalidTable.__init__", defArgs s_InvalidTable_init, defBody s_InvalidTable_init, defScope s_InvalidTable_init, [], []⟩
def d2 : He.DefD := ⟨("InvalidProgram", some "__init__"), "__init__", "InvalidProgram.__init__", defArgs s_InvalidProgram_init, defBody s_InvalidProgram_init, defScope s_InvalidProgram_init, [], []⟩
def d3 : He.DefD := ⟨("InvalidPair", some "__init__"), "__init__", "InvalidPair.__init__", defArgs s_InvalidPair_init, defBody s_InvalidPair_init, defScope s_InvalidPair_init, [], []⟩
def d4 : He.DefD := ⟨("InvalidEvent", some "__init__"), "__init__", "InvalidEvent.__init__", defArgs s_InvalidEvent_init, defBody s_InvalidEvent_init, defScope s_InvalidEvent_init, [], []⟩
def d5 : He.DefD := ⟨("NotPossible", some "__init__"), "__init__", "NotPossible.__init__", defArgs s_NotPossible_init, defBody s_NotPossible_init, defScope s_NotPossible_init, [], []⟩
def d6 : He.DefD := ⟨("is_integer_from", none), "is_integer_from", "is_integer_from", defArgs s_is_integer_from, defBody s_is_integer_from, defScope s_is_integer_from, [], []⟩
def d7 : He.DefD := ⟨("is_below", none), "is_below", "is_below", defArgs s_is_below, defBody s_is_below, defScope s_is_below, [], []⟩
def d8 : He.DefD := ⟨("is_none_or_below", none), "is_none_or_below", "is_none_or_below", defArgs s_is_none_or_below, defBody s_is_none_or_below, defScope s_is_none_or_below, [], []⟩
def d9 : He.DefD := ⟨("is_list", none), "is_list", "is_list", defArgs s_is_list, defBody s_is_list, defScope s_is_list, [], []⟩
def d10 : He.DefD := ⟨("check_number", none), "check_number", "check_number", defArgs s_check_number, defBody s_check_number, defScope s_check_number, [], []⟩
def d11 : He.DefD := ⟨("check_counts", none), "check_counts", "check_counts", defArgs s_check_counts, defBody s_check_counts, defScope s_check_counts, [], []⟩
def d12 : He.DefD := ⟨("state_count", none), "state_count", "state_count", defArgs s_state_count, defBody s_state_count, defScope s_state_count, [], []⟩
def d13 : He.DefD := ⟨("checked_table", none), "checked_table", "checked_table", defArgs s_checked_table, defBody s_checked_table, defScope s_checked_table, [], []⟩
def d14 : He.DefD := ⟨("message_table", none), "message_table", "message_table", defArgs s_message_table, defBody s_message_table, defScope s_message_table, [], []⟩
def d15 : He.DefD := ⟨("state_table", none), "state_table", "state_table", defArgs s_state_table, defBody s_state_table, defScope s_state_table, [], []⟩
def d16 : He.DefD := ⟨("are_states", none), "are_states", "are_states", defArgs s_are_states, defBody s_are_states, defScope s_are_states, [], []⟩
def d17 : He.DefD := ⟨("hearing_table", none), "hearing_table", "hearing_table", defArgs s_hearing_table, defBody s_hearing_table, defScope s_hearing_table, [], []⟩
def d18 : He.DefD := ⟨("taking_table", none), "taking_table", "taking_table", defArgs s_taking_table, defBody s_taking_table, defScope s_taking_table, [], []⟩
def d19 : He.DefD := ⟨("are_gifts", none), "are_gifts", "are_gifts", defArgs s_are_gifts, defBody s_are_gifts, defScope s_are_gifts, [], []⟩
def d20 : He.DefD := ⟨("giving_table", none), "giving_table", "giving_table", defArgs s_giving_table, defBody s_giving_table, defScope s_giving_table, [], []⟩
def d21 : He.DefD := ⟨("Sender", some "__init__"), "__init__", "Sender.__init__", defArgs s_Sender_init, defBody s_Sender_init, defScope s_Sender_init, [], []⟩
def d22 : He.DefD := ⟨("Sender", some "__eq__"), "__eq__", "Sender.__eq__", defArgs s_Sender_eq, defBody s_Sender_eq, defScope s_Sender_eq, [], []⟩
def d23 : He.DefD := ⟨("Receiver", some "__init__"), "__init__", "Receiver.__init__", defArgs s_Receiver_init, defBody s_Receiver_init, defScope s_Receiver_init, [], []⟩
def d24 : He.DefD := ⟨("Receiver", some "__eq__"), "__eq__", "Receiver.__eq__", defArgs s_Receiver_eq, defBody s_Receiver_eq, defScope s_Receiver_eq, [], []⟩
def d25 : He.DefD := ⟨("counts", none), "counts", "counts", defArgs s_counts, defBody s_counts, defScope s_counts, [], []⟩
def d26 : He.DefD := ⟨("Pair", some "__init__"), "__init__", "Pair.__init__", defArgs s_Pair_init, defBody s_Pair_init, defScope s_Pair_init, [], []⟩
def d27 : He.DefD := ⟨("Pair", some "__eq__"), "__eq__", "Pair.__eq__", defArgs s_Pair_eq, defBody s_Pair_eq, defScope s_Pair_eq, [], []⟩
def d28 : He.DefD := ⟨("check_pair", none), "check_pair", "check_pair", defArgs s_check_pair, defBody s_check_pair, defScope s_check_pair, [], []⟩
def d29 : He.DefD := ⟨("is_event", none), "is_event", "is_event", defArgs s_is_event, defBody s_is_event, defScope s_is_event, [], []⟩
def d30 : He.DefD := ⟨("Talk", some "__init__"), "__init__", "Talk.__init__", defArgs s_Talk_init, defBody s_Talk_init, defScope s_Talk_init, [], []⟩
def d31 : He.DefD := ⟨("Talk", some "is_free"), "is_free", "Talk.is_free", defArgs s_Talk_is_free, defBody s_Talk_is_free, defScope s_Talk_is_free, [], []⟩
def d32 : He.DefD := ⟨("Talk", some "allows"), "allows", "Talk.allows", defArgs s_Talk_allows, defBody s_Talk_allows, defScope s_Talk_allows, [], []⟩
def d33 : He.DefD := ⟨("Talk", some "step"), "step", "Talk.step", defArgs s_Talk_step, defBody s_Talk_step, defScope s_Talk_step, [], []⟩
def d34 : He.DefD := ⟨("Talk", some "send"), "send", "Talk.send", defArgs s_Talk_send, defBody s_Talk_send, defScope s_Talk_send, [], []⟩
def d35 : He.DefD := ⟨("Talk", some "answer"), "answer", "Talk.answer", defArgs s_Talk_answer, defBody s_Talk_answer, defScope s_Talk_answer, [], []⟩
def d36 : He.DefD := ⟨("Talk", some "pass_forward"), "pass_forward", "Talk.pass_forward", defArgs s_Talk_pass_forward, defBody s_Talk_pass_forward, defScope s_Talk_pass_forward, [], []⟩
def d37 : He.DefD := ⟨("Talk", some "pass_backward"), "pass_backward", "Talk.pass_backward", defArgs s_Talk_pass_backward, defBody s_Talk_pass_backward, defScope s_Talk_pass_backward, [], []⟩
def d38 : He.DefD := ⟨("Talk", some "crash"), "crash", "Talk.crash", defArgs s_Talk_crash, defBody s_Talk_crash, defScope s_Talk_crash, [], []⟩
def d39 : He.DefD := ⟨("moment_of", none), "moment_of", "moment_of", defArgs s_moment_of, defBody s_moment_of, defScope s_moment_of, [], []⟩
def d40 : He.DefD := ⟨("check_events", none), "check_events", "check_events", defArgs s_check_events, defBody s_check_events, defScope s_check_events, [], []⟩
def d41 : He.DefD := ⟨("walk", none), "walk", "walk", defArgs s_walk, defBody s_walk, defScope s_walk, [], []⟩
def d42 : He.DefD := ⟨("walked", none), "walked", "walked", defArgs s_walked, defBody s_walked, defScope s_walked, [], []⟩
def d43 : He.DefD := ⟨("delivered", none), "delivered", "delivered", defArgs s_delivered, defBody s_delivered, defScope s_delivered, [], []⟩
def d44 : He.DefD := ⟨("possible", none), "possible", "possible", defArgs s_possible, defBody s_possible, defScope s_possible, [], []⟩
def d45 : He.DefD := ⟨("_law_mixed", none), "_law_mixed", "_law_mixed", defArgs s_law_mixed, defBody s_law_mixed, defScope s_law_mixed, [], []⟩
def d46 : He.DefD := ⟨("_law_purse", none), "_law_purse", "_law_purse", defArgs s_law_purse, defBody s_law_purse, defScope s_law_purse, [], []⟩
def d47 : He.DefD := ⟨("_law_draw", none), "_law_draw", "_law_draw", defArgs s_law_draw, defBody s_law_draw, defScope s_law_draw, [], []⟩
def d48 : He.DefD := ⟨("_law_great", none), "_law_great", "_law_great", defArgs s_law_great, defBody s_law_great, defScope s_law_great, [], []⟩
def d49 : He.DefD := ⟨("_law_row", none), "_law_row", "_law_row", defArgs s_law_row, defBody s_law_row, defScope s_law_row, [], []⟩
def d50 : He.DefD := ⟨("_law_falls", none), "_law_falls", "_law_falls", defArgs s_law_falls, defBody s_law_falls, defScope s_law_falls, [], []⟩
def d51 : He.DefD := ⟨("_law_letters", none), "_law_letters", "_law_letters", defArgs s_law_letters, defBody s_law_letters, defScope s_law_letters, [], []⟩
def d52 : He.DefD := ⟨("_law_sender", none), "_law_sender", "_law_sender", defArgs s_law_sender, defBody s_law_sender, defScope s_law_sender, [], []⟩
def d53 : He.DefD := ⟨("_law_receiver", none), "_law_receiver", "_law_receiver", defArgs s_law_receiver, defBody s_law_receiver, defScope s_law_receiver, [], []⟩
def d54 : He.DefD := ⟨("_law_turns", none), "_law_turns", "_law_turns", defArgs s_law_turns, defBody s_law_turns, defScope s_law_turns, [], []⟩
def d55 : He.DefD := ⟨("_law_greets", none), "_law_greets", "_law_greets", defArgs s_law_greets, defBody s_law_greets, defScope s_law_greets, [], []⟩
def d56 : He.DefD := ⟨("_law_repeats", none), "_law_repeats", "_law_repeats", defArgs s_law_repeats, defBody s_law_repeats, defScope s_law_repeats, [], []⟩
def d57 : He.DefD := ⟨("_law_raw", none), "_law_raw", "_law_raw", defArgs s_law_raw, defBody s_law_raw, defScope s_law_raw, [], []⟩
def d58 : He.DefD := ⟨("_law_made_sender", none), "_law_made_sender", "_law_made_sender", defArgs s_law_made_sender, defBody s_law_made_sender, defScope s_law_made_sender, [], []⟩
def d59 : He.DefD := ⟨("_law_made_receiver", none), "_law_made_receiver", "_law_made_receiver", defArgs s_law_made_receiver, defBody s_law_made_receiver, defScope s_law_made_receiver, [], []⟩
def d60 : He.DefD := ⟨("_law_made", none), "_law_made", "_law_made", defArgs s_law_made, defBody s_law_made, defScope s_law_made, [], []⟩
def d61 : He.DefD := ⟨("_law_tick", none), "_law_tick", "_law_tick", defArgs s_law_tick, defBody s_law_tick, defScope s_law_tick, [], []⟩
def d62 : He.DefD := ⟨("_law_step", none), "_law_step", "_law_step", defArgs s_law_step, defBody s_law_step, defScope s_law_step, [], []⟩
def d63 : He.DefD := ⟨("_law_deeds", none), "_law_deeds", "_law_deeds", defArgs s_law_deeds, defBody s_law_deeds, defScope s_law_deeds, [], []⟩
def d64 : He.DefD := ⟨("_law_led", none), "_law_led", "_law_led", defArgs s_law_led, defBody s_law_led, defScope s_law_led, [], []⟩
def d65 : He.DefD := ⟨("_law_walk", none), "_law_walk", "_law_walk", defArgs s_law_walk, defBody s_law_walk, defScope s_law_walk, [], []⟩
def d66 : He.DefD := ⟨("_law_duos", none), "_law_duos", "_law_duos", defArgs s_law_duos, defBody s_law_duos, defScope s_law_duos, [], []⟩
def d67 : He.DefD := ⟨("_law_run_right", none), "_law_run_right", "_law_run_right", defArgs s_law_run_right, defBody s_law_run_right, defScope s_law_run_right, [], []⟩
def d68 : He.DefD := ⟨("_law_right", none), "_law_right", "_law_right", defArgs s_law_right, defBody s_law_right, defScope s_law_right, [], []⟩
def d69 : He.DefD := ⟨("law", none), "law", "law", defArgs s_law, defBody s_law, defScope s_law, [], []⟩
def fn : List He.DefD := [HD.d0, HD.d1, HD.d2, HD.d3, HD.d4, HD.d5, HD.d6, HD.d7, HD.d8, HD.d9, HD.d10, HD.d11, HD.d12, HD.d13, HD.d14, HD.d15, HD.d16, HD.d17, HD.d18, HD.d19, HD.d20, HD.d21, HD.d22, HD.d23, HD.d24, HD.d25, HD.d26, HD.d27, HD.d28, HD.d29, HD.d30, HD.d31, HD.d32, HD.d33, HD.d34, HD.d35, HD.d36, HD.d37, HD.d38, HD.d39, HD.d40, HD.d41, HD.d42, HD.d43, HD.d44, HD.d45, HD.d46, HD.d47, HD.d48, HD.d49, HD.d50, HD.d51, HD.d52, HD.d53, HD.d54, HD.d55, HD.d56, HD.d57, HD.d58, HD.d59, HD.d60, HD.d61, HD.d62, HD.d63, HD.d64, HD.d65, HD.d66, HD.d67, HD.d68, HD.d69]
def p0 : He5.DefA := ⟨WH.pget "Sender" "value_count", "value_count", "Sender.value_count", defArgs s_Sender_value_count, defBody s_Sender_value_count, defScope s_Sender_value_count, [], []⟩
def p1 : He5.DefA := ⟨WH.pget "Sender" "forward", "forward", "Sender.forward", defArgs s_Sender_forward, defBody s_Sender_forward, defScope s_Sender_forward, [], []⟩
def p2 : He5.DefA := ⟨WH.pget "Sender" "backward", "backward", "Sender.backward", defArgs s_Sender_backward, defBody s_Sender_backward, defScope s_Sender_backward, [], []⟩
def p3 : He5.DefA := ⟨WH.pget "Sender" "sends", "sends", "Sender.sends", defArgs s_Sender_sends, defBody s_Sender_sends, defScope s_Sender_sends, [], []⟩
def p4 : He5.DefA := ⟨WH.pget "Sender" "ticks", "ticks", "Sender.ticks", defArgs s_Sender_ticks, defBody s_Sender_ticks, defScope s_Sender_ticks, [], []⟩
def p5 : He5.DefA := ⟨WH.pget "Sender" "hears", "hears", "Sender.hears", defArgs s_Sender_hears, defBody s_Sender_hears, defScope s_Sender_hears, [], []⟩
def p6 : He5.DefA := ⟨WH.pget "Sender" "takes", "takes", "Sender.takes", defArgs s_Sender_takes, defBody s_Sender_takes, defScope s_Sender_takes, [], []⟩
def p7 : He5.DefA := ⟨WH.pget "Sender" "crashes", "crashes", "Sender.crashes", defArgs s_Sender_crashes, defBody s_Sender_crashes, defScope s_Sender_crashes, [], []⟩
def p8 : He5.DefA := ⟨WH.pget "Receiver" "value_count", "value_count", "Receiver.value_count", defArgs s_Receiver_value_count, defBody s_Receiver_value_count, defScope s_Receiver_value_count, [], []⟩
def p9 : He5.DefA := ⟨WH.pget "Receiver" "forward", "forward", "Receiver.forward", defArgs s_Receiver_forward, defBody s_Receiver_forward, defScope s_Receiver_forward, [], []⟩
def p10 : He5.DefA := ⟨WH.pget "Receiver" "backward", "backward", "Receiver.backward", defArgs s_Receiver_backward, defBody s_Receiver_backward, defScope s_Receiver_backward, [], []⟩
def p11 : He5.DefA := ⟨WH.pget "Receiver" "sends", "sends", "Receiver.sends", defArgs s_Receiver_sends, defBody s_Receiver_sends, defScope s_Receiver_sends, [], []⟩
def p12 : He5.DefA := ⟨WH.pget "Receiver" "ticks", "ticks", "Receiver.ticks", defArgs s_Receiver_ticks, defBody s_Receiver_ticks, defScope s_Receiver_ticks, [], []⟩
def p13 : He5.DefA := ⟨WH.pget "Receiver" "hears", "hears", "Receiver.hears", defArgs s_Receiver_hears, defBody s_Receiver_hears, defScope s_Receiver_hears, [], []⟩
def p14 : He5.DefA := ⟨WH.pget "Receiver" "gives", "gives", "Receiver.gives", defArgs s_Receiver_gives, defBody s_Receiver_gives, defScope s_Receiver_gives, [], []⟩
def p15 : He5.DefA := ⟨WH.pget "Receiver" "crashes", "crashes", "Receiver.crashes", defArgs s_Receiver_crashes, defBody s_Receiver_crashes, defScope s_Receiver_crashes, [], []⟩
def p16 : He5.DefA := ⟨WH.pget "Pair" "sender", "sender", "Pair.sender", defArgs s_Pair_sender, defBody s_Pair_sender, defScope s_Pair_sender, [], []⟩
def p17 : He5.DefA := ⟨WH.pget "Pair" "receiver", "receiver", "Pair.receiver", defArgs s_Pair_receiver, defBody s_Pair_receiver, defScope s_Pair_receiver, [], []⟩
def pa : List He5.DefA := [HD.p0, HD.p1, HD.p2, HD.p3, HD.p4, HD.p5, HD.p6, HD.p7, HD.p8, HD.p9, HD.p10, HD.p11, HD.p12, HD.p13, HD.p14, HD.p15, HD.p16, HD.p17]
def fa : List He.Fa := [.glo "TalkError", .glo "InvalidNumber", .glo "InvalidTable", .glo "InvalidProgram", .glo "InvalidPair", .glo "InvalidEvent", .glo "UnlikePrograms", .glo "NotPossible", .glo "is_integer_from", .glo "is_below", .glo "is_none_or_below", .glo "is_list", .glo "check_number", .glo "check_counts", .glo "state_count", .glo "checked_table", .glo "message_table", .glo "state_table", .glo "are_states", .glo "hearing_table", .glo "taking_table", .glo "are_gifts", .glo "giving_table", .glo "Sender", .glo "Receiver", .glo "counts", .glo "Pair", .glo "check_pair", .glo "is_event", .glo "Talk", .glo "moment_of", .glo "check_events", .glo "walk", .glo "walked", .glo "delivered", .glo "possible", .glo "_law_mixed", .glo "_law_purse", .glo "_law_draw", .glo "_law_great", .glo "_law_row", .glo "_law_falls", .glo "_law_letters", .glo "_law_sender", .glo "_law_receiver", .glo "_law_turns", .glo "_law_greets", .glo "_law_repeats", .glo "_law_raw", .glo "_law_made_sender", .glo "_law_made_receiver", .glo "_law_made", .glo "_law_tick", .glo "_law_step", .glo "_law_deeds", .glo "_law_led", .glo "_law_walk", .glo "_law_duos", .glo "_law_run_right", .glo "_law_right", .glo "law", .glo "CHANNELS", .glo "PLAIN_EVENTS", .free "ValueError", .free "all", .free "bool", .free "enumerate", .free "int", .free "isinstance", .free "len", .free "list", .free "max", .free "min", .free "range", .free "tuple", .cls "Sender", .mkr "Sender", .noat "Sender" "_backward", .noat "Sender" "_crashes", .noat "Sender" "_forward", .noat "Sender" "_hears", .noat "Sender" "_sends", .noat "Sender" "_takes", .noat "Sender" "_ticks", .noat "Sender" "_value_count", .cls "Receiver", .mkr "Receiver", .noat "Receiver" "_backward", .noat "Receiver" "_crashes", .noat "Receiver" "_forward", .noat "Receiver" "_gives", .noat "Receiver" "_hears", .noat "Receiver" "_sends", .noat "Receiver" "_ticks", .noat "Receiver" "_value_count", .cls "Pair", .mkr "Pair", .noat "Pair" "_receiver", .noat "Pair" "_sender", .cls "Talk", .mkr "Talk", .noat "Talk" "channels", .noat "Talk" "receiver_state", .noat "Talk" "receiver_tables", .noat "Talk" "sender_state", .noat "Talk" "sender_tables", .meth "Sender" "__eq__", .meth "Receiver" "__eq__", .meth "Pair" "__eq__", .meth "Talk" "is_free", .meth "Talk" "allows", .meth "Talk" "step", .meth "Talk" "send", .meth "Talk" "answer", .meth "Talk" "pass_forward", .meth "Talk" "pass_backward", .meth "Talk" "crash"]
def tf : List He.Defn := [("message_table", none), ("state_table", none), ("hearing_table", none), ("taking_table", none), ("giving_table", none)]
def exs : List WH.Ex := [WH.propB "Sender" "value_count", WH.propB "Sender" "forward", WH.propB "Sender" "backward", WH.propB "Sender" "sends", WH.propB "Sender" "ticks", WH.propB "Sender" "hears", WH.propB "Sender" "takes", WH.propB "Sender" "crashes", WH.propB "Receiver" "value_count", WH.propB "Receiver" "forward", WH.propB "Receiver" "backward", WH.propB "Receiver" "sends", WH.propB "Receiver" "ticks", WH.propB "Receiver" "hears", WH.propB "Receiver" "gives", WH.propB "Receiver" "crashes", WH.propB "Pair" "sender", WH.propB "Pair" "receiver", LW.clsIB "Sender", LW.neB "Sender", LW.awayB "Sender", LW.kitLB "Sender", LW.clsIB "Receiver", LW.neB "Receiver", LW.awayB "Receiver", LW.kitLB "Receiver", LW.clsIB "Pair", LW.neB "Pair", LW.awayB "Pair", LW.kitLB "Pair", LW.kitCB "Sender" "Pair", LW.kitCB "Receiver" "Pair", LW.kitCB "Receiver" "Sender", LW.kitCB "Pair" "Sender", LW.kitCB "Pair" "Receiver", LW.notB "Pair" "Sender", LW.notB "Pair" "Receiver", LW.notB "Sender" "Receiver", LW.notB "Sender" "Pair", LW.notB "Receiver" "Pair", LW.tupB "Pair", LW.distB HD.tf, LW.tup1B "CHANNELS" ["forward", "backward"], LW.tup2B "PLAIN_EVENTS" [["send"], ["answer"], ["pass", "forward"], ["pass", "backward"], ["crash", "sender"], ["crash", "receiver"]]]
abbrev R : PySem.W.OpenRow := PySem.W.OpenLaw.row PySem.Challenge.rw_wipedtalk_k05_runs_walked
abbrev hk : PySem.W.Hook := WH.hookW 5 HD.fa HD.fn HD.pa HD.tf HD.exs
def ob (s : PySem.W.SharedT) : WH.AlW := WH.obsW 5 HD.fa HD.fn HD.pa HD.tf HD.exs (HandSHeadRun.getT s)
theorem ob_eq (s : PySem.W.SharedT) : HD.ob s = HD.hk.obs s.abs := WH.obsW_eq (HandSHeadRun.getT_eq s)
def nm0 : List PySem.Str := ["TalkError", "InvalidNumber", "InvalidTable", "InvalidProgram", "InvalidPair", "InvalidEvent", "UnlikePrograms", "NotPossible", "is_integer_from", "is_below", "is_none_or_below", "is_list", "check_number", "check_counts", "state_count", "checked_table"]
def nm1 : List PySem.Str := ["message_table", "state_table", "are_states", "hearing_table", "taking_table", "are_gifts", "giving_table", "Sender", "Receiver", "counts", "Pair", "check_pair", "is_event", "Talk", "moment_of", "check_events"]
def nm2 : List PySem.Str := ["walk", "walked", "delivered", "possible", "_law_mixed", "_law_purse", "_law_draw", "_law_great", "_law_row", "_law_falls", "_law_letters", "_law_sender", "_law_receiver", "_law_turns", "_law_greets", "_law_repeats"]
def nm3 : List PySem.Str := ["_law_raw", "_law_made_sender", "_law_made_receiver", "_law_made", "_law_tick", "_law_step", "_law_deeds", "_law_led", "_law_walk", "_law_duos", "_law_run_right", "_law_right", "CHANNELS", "PLAIN_EVENTS"]
def nms : List PySem.Str := HD.nm0 ++ HD.nm1 ++ HD.nm2 ++ HD.nm3
theorem comb {σ α β γ δ : Type} {o : Option σ} {f : σ → α × β} {g : σ → γ} {h : σ → δ} {a : α} {b : β} {c : γ} {d : δ} (h1 : o.map f = some (a, b)) (h2 : o.map g = some c) (h3 : o.map h = some d) : o.map (fun s => ((f s).1, (f s).2, (g s, h s))) = some (a, b, (c, d)) := by
  cases o with
  | none => cases h1
  | some s =>
    have e1 : f s = (a, b) := Option.some.inj h1
    have e2 : g s = c := Option.some.inj h2
    have e3 : h s = d := Option.some.inj h3
    show some ((f s).1, (f s).2, (g s, h s)) = _
    rw [e1, e2, e3]
section
open PySem.W HandSHeadRun
abbrev qq := PySem.W.view HD.R.prog [67]
abbrev KK (s : PySem.W.SharedT) : PySem.W.Frag := He.frT (getT s) (He.asD (getT s) 5)
theorem runA (w : World) (os : OsState) : (endF (stepQ (denQ tabQ) HD.R.prog w) 8000 HD.R.prog w os).map (fun s => (looksF HD.R.prog (boot_heap w.params) s.abs, seenQ qq HD.nms (importedModules HD.R.prog.main.body) (fun s => xlAt qq [] s && recOk HD.R.toRowW.records s) s.abs)) = some (true, openGood qq HD.nms) := by
  kernel_rfl
theorem runB (w : World) (os : OsState) : (endF (stepQ (denQ tabQ) HD.R.prog w) 8000 HD.R.prog w os).map (fun s => He.obsD HD.fa HD.fn (KK s)) = some (He.valD HD.fn) := by
  kernel_rfl
theorem runC (w : World) (os : OsState) : (endF (stepQ (denQ tabQ) HD.R.prog w) 8000 HD.R.prog w os).map (fun s => (HD.pa.map fun d => He5.fnA (KK s) (d.at_ (KK s)), (HD.exs.all fun e => e (KK s)) && ((HD.pa.all fun d => d.ok (KK s)) && He.tabsB (getT s) HD.tf (KK s)))) = some (HD.pa.map He5.DefA.val, true) := by
  kernel_rfl
theorem run (w : World) : HandSHeadRun.RunEq HD.R (PySem.W.view HD.R.prog [67]) HD.hk HD.ob 8000 HD.nms w := fun os => comb (runA w os) (runB w os) (runC w os)
end
end HD

set_option Elab.async false
set_option linter.all false
set_option maxRecDepth 100000
set_option maxHeartbeats 4000000
/-! A lambda with parameters, handed to a def as its last argument and called there. -/
namespace WLam
open PySem PySem.Spec PyProof.Rows L2 LamX NdefX

theorem cells_un {fs : List Addr} {cl : List (Str × Addr)} {fr : List Str} {ws : List (Option V)} {h h' : Heap} {H H' : Hp} (C : CellsAt cl fr ws h H) (un : Un fs [] H H' h h') : CellsAt cl fr ws h' H' := by
  have kp : ∀ y c, cl.lookup y = some c → ∀ v, h.IsCell c v → h'.IsCell c v := fun y c e v ⟨o, ho, hd⟩ => by
    obtain ⟨sl, q⟩ := un.any ho (C.all y c e).1 (by simp)
    exact ⟨_, q, hd⟩
  refine ⟨C.len, fun y c e => ?_, C.inj, fun i y e => ?_⟩
  · obtain ⟨n, v, z⟩ := C.all y c e
    refine ⟨?_, v, kp y c e v z⟩
    obtain ⟨o, ho, _⟩ := z
    exact un.free c o ho n (by simp)
  · obtain ⟨c, hc, hv⟩ := C.has i y e
    refine ⟨c, hc, fun v ev => ?_⟩
    obtain ⟨u, r, z⟩ := hv v ev
    exact ⟨u, r, kp y c hc _ z⟩

section
variable {CX : CXT} {P : Program} {w : World} {K : PySem.W.Frag} {mg : Str → Option Value} {base : Heap} {N ps fr : List Str} {F : NF} {f : Addr} {A : Around} {outer : List Env} {s : Shared} {H : Hp} {E : XK} {us : List Value} {vs : List V} {ws : List (Option V)} {Q : VK} {k : Nat}
/-- a lambda, called: its body's reading at its parameters and what it captured -/
theorem lam_run {params : Arguments} {body : Expr} {pm ctv : Value} {tb : TE} (S : NScope N ps fr F.scope) (ho : s.heap.get? f = some (PySem.W.kla_obj "<lambda>" F.qual params body F.scope F.cl pm F.c ctv)) (hc : s.heap.CodeRec (.ref F.c) F.qual)
    (hb : bindArgs (PySem.W.kla_fn "<lambda>" F.qual params body F.scope F.cl pm (.ref F.c) ctv) ⟨us, []⟩ = pure (ps.zip us)) (hl : vs.length = ps.length) (hr : Room (k + 1) A) (e0 : Env0 P w K mg base A outer s H) (C : CellsAt F.cl fr ws s.heap H) (r : Vals vs us)
    (hbody : Room k (A.deeper (envF F f s.heap.objs.size)) → PE (ncx CX P w K mg base N F f A outer s H E) body tb) (ht : tb (startF N vs ws) H Q) :
    codeAny (model P w) A (.call (.ref f) ⟨us, []⟩) (CR CX outer P w H s Q E) s := by
  have lim : s.heap.NoLimit := e0.mod.nolimit.keeps fun b o e => (e0.bs b o e).1
  refine PySem.W.kla_callFunE hr.depth ho rfl S.co S.gen rfl hc ?_
  rw [hb]
  refine wpAny_pure (wpAny_newFunctionEnv S.nocell (fun ⟨n, _⟩ hy => S.par n (List.of_mem_zip hy).1) (fun h₁ hns hsb => ⟨lim.fresh _ hsb, ?_⟩) S.kind)
  show codeAny _ _ (.expr body (envF F f s.heap.objs.size)) _ _
  have kp : ∀ b o, s.heap.get? b = some o → h₁.get? b = some o := fun b o e => hsb.extBut b o (Nat.ne_of_lt (Heap.lt_size e)) (Heap.get?_push_of_some _ e)
  have I : Inv (ncx CX P w K mg base N F f A outer s H E) [] (startF N vs ws) H { s with heap := h₁, toks := s.toks + (ps.zip us).length } := inv_startN S hr.hd e0 hl r C hns kp
  refine PySem.W.kla_codeExpr (wpAny_mono ((hbody (hr.deeper _)).run [] _ _ H Q I ht) (fun v s' hq => ?_) fun e s' hq => hq)
  obtain ⟨w', H', J', rv, q⟩ := hq
  exact ⟨w', H', J'.os, J'.bare, J'.base, J'.hok, rv, q⟩
end

section
variable {X : Cx} {pins : List (Addr × Obj)} {σ : L2.St} {H : Hp} {s : Shared}
/-- a lambda is made; told too: nothing that was tracked is gone -/
theorem lam_mk {T : List (Addr × Str)} {c P : Addr} {params : Arguments} {body : Expr} {scope : Scope} {pos : Pos} {E : Value → Shared → Prop} {Q : Value → Shared → Prop} (I : Inv X pins σ H s) (TB : TabB X.base X.mg c P) (hcode : X.env.code = .ref c)
    (hm : (P, X.env.qual ++ "<lambda>") ∈ T) (hu : ∀ p ∈ T, p.1 = P → p.2 = X.env.qual ++ "<lambda>") (hT : Tabs T H) (hdef : defaultsOf params X.env = ([], [])) (hfree : ∀ y ∈ scope.names, y.2 = .free → ∃ c, X.env.cells.lookup y.1 = some c)
    (go : ∀ (f c' : Addr) (pm ctv : Value) (H1 : Hp) (s' : Shared), Inv X pins σ H1 s' → ExtN H H1 → (∀ b, H1 b = none → H b = none) → Tabs T H1 →
      s'.heap.get? f = some (PySem.W.kla_obj "<lambda>" (X.env.qual ++ "<lambda>") params body scope (cloFrom X.env.cells scope.names []) pm c' ctv) → H1 f = none → f ∉ frs X.stack → H1 c' = some (CodeO c' (X.env.qual ++ "<lambda>")) → Q (.ref f) s') :
    wpAny (model X.prog X.w) X.A (eval (.Lambda params body scope pos) X.env) Q E s := by
  obtain ⟨ps, tP, t3, tA⟩ := hT _ hm
  have oP : s.heap.get? P = some { cls := .none, data := .fields ps } := I.hok P _ tP
  have bP : s.heap.BuiltinsAt X.mg P := TB.bm.keeps I.bk
  have away : ∀ b, s.heap.objs.size ≤ b → b ∉ frs X.stack := fun b hb z => by
    rcases List.mem_cons.mp (I.stkSub _ z) with e | e
    · exact Nat.lt_irrefl _ (Nat.lt_of_lt_of_le I.lt (e ▸ hb))
    · exact I.nofs hb e
  refine PySem.W.kla_eval hdef ?_
  cases look : codeAmong pos ps.toList with
  | some cv =>
    obtain ⟨c', rfl, hco⟩ := tA pos cv look
    refine PySem.W.kla_makeFunctionHit (mg := X.mg) (c := c) (P := P) (ps := ps) (closure_ok hfree) I.ok.glob (I.mod.glob.keeps I.bk) hcode (TB.code.keeps I.bk) oP t3 look bP fun ctv h' tk grow hz => ?_
    exact go h'.objs.size c' ((X.mg "__name__").getD .none) ctv H _ (I.kept fun b o e => Heap.get?_push_of_some _ (grow b o e)) (ExtN.refl H) (fun _ z => z) hT (Heap.get?_push_size _ rfl) (I.hok.fresh hz) (away _ hz) hco
  | none =>
    refine PySem.W.kla_makeFunction (mg := X.mg) (c := c) (P := P) (ps := ps) (closure_ok hfree) I.ok.glob (I.mod.glob.keeps I.bk) hcode (TB.code.keeps I.bk) oP t3 look TB.gP bP fun c' ctv h' tk grow hge hlt hrec htb => ?_
    obtain ⟨_, oc, vs, t, ec, hoc, hd, hv⟩ := hrec
    cases ec
    have hz : s.heap.objs.size ≤ h'.objs.size := Nat.le_trans hge (Nat.le_of_lt hlt)
    have freshC : H c' = none := I.hok.fresh hge
    have J := inv_table (t' := tk) (more := #[rawInt pos.line, rawInt pos.col, .ref c']) (h' := h'.push (PySem.W.kla_obj "<lambda>" (X.env.qual ++ "<lambda>") params body scope (cloFrom X.env.cells scope.names []) ((X.mg "__name__").getD .none) c' ctv)) I tP
      (fun b o hb e => Heap.get?_push_of_some _ (grow b o hb e)) (Heap.get?_push_of_some _ htb) hge ⟨oc, vs, t, Heap.get?_push_of_some _ hoc, hd, hv⟩
    have kept : ExtN H (upd (upd H P (.tbl (ps ++ #[rawInt pos.line, rawInt pos.col, .ref c']))) c' (CodeO c' (X.env.qual ++ "<lambda>"))) := fun b o e n => by
      rw [upd_ne (ne_of_none e freshC), upd_ne (fun z => n ps (Option.some.inj (e.symm.trans (by rw [z]; exact tP))))]
      exact e
    have asList : (ps ++ #[rawInt pos.line, rawInt pos.col, .ref c']).toList = ps.toList ++ [rawInt pos.line, rawInt pos.col, .ref c'] := by simp
    refine go h'.objs.size c' ((X.mg "__name__").getD .none) ctv _ _ J kept (fun b e => upd_none (upd_none e)) (fun p hp => ?_) (Heap.get?_push_size _ rfl) ?_ (away _ hz) upd_same
    · by_cases hb : p.1 = P
      · rw [hu p hp hb, hb]
        refine ⟨_, by rw [upd_ne (ne_of_none tP freshC), upd_same], by rw [asList]; exact PySem.TriplesOk_snoc _ _ _ _ t3, fun p' cv hcv => ?_⟩
        rw [asList] at hcv
        rcases among_app _ t3 hcv with z | z
        · obtain ⟨c0, e1, e2⟩ := tA p' cv z
          exact ⟨c0, e1, kept _ _ e2 codeO_ne⟩
        · exact ⟨c', z, upd_same⟩
      · obtain ⟨qs, a1, a2, a3⟩ := hT p hp
        refine ⟨qs, by rw [upd_ne (ne_of_none a1 freshC), upd_ne hb]; exact a1, a2, fun p' cv hcv => ?_⟩
        obtain ⟨c0, e1, e2⟩ := a3 p' cv hcv
        exact ⟨c0, e1, kept _ _ e2 codeO_ne⟩
    · rw [upd_ne (Nat.ne_of_gt hlt), upd_ne (Nat.ne_of_gt (Nat.lt_of_lt_of_le (Heap.lt_size oP) hz))]
      exact I.hok.fresh hz
end
section
variable {X : Cx} {pins : List (Addr × Obj)} {σ : L2.St} {H : Hp} {s : Shared}
/-- a(e, ..), in the def that got the lambda as its name a: Z is that def's context, entered at s -/
theorem pe_act1 {CXg : CXT} {Eg : XK} {Ng N ps fr : List Str} {qg : Str} {sg : Scope} {g f : Addr} {cdg pm ctv : Value} {params : Arguments} {body : Expr} {F : NF} {k i : Nat} {a : Str} {ws : List (Option V)} {tb : TE} {p1 p2 : Pos} {e : Expr} {es : List Expr} {t : TA}
    (I : Inv X pins σ H s) (S : NScope N ps fr F.scope) (hf : s.heap.get? f = some (PySem.W.kla_obj "<lambda>" F.qual params body F.scope F.cl pm F.c ctv)) (hfn : H f = none) (hfr : f ∉ frs X.stack) (C : CellsAt F.cl fr ws s.heap H)
    (hbind : ∀ us : List Value, us.length = ps.length → bindArgs (PySem.W.kla_fn "<lambda>" F.qual params body F.scope F.cl pm (.ref F.c) ctv) ⟨us, []⟩ = pure (ps.zip us))
    (hr : Room (k + 1) (X.A.deeper (envOfC qg sg s.heap.objs.size g cdg)))
    (hbody : ∀ (A : Around) (outer : List Env) (s : Shared) (H : Hp), Room k (A.deeper (envF F f s.heap.objs.size)) → PE (ncx L2.CX0 X.prog X.w X.K X.mg X.base N F f A outer s H L2.E0) body tb)
    (hN : Ng[i]? = some a) (hv : Vis sg a) (ha : PA (cxOf CXg X.prog X.w X.K X.mg X.base Ng qg sg g cdg X.A X.stack s H Eg).nox (e :: es) t)
    (hd : (a == ("__debug__" : Str)) = false) (hcd : (a == ("__classdict__" : Str)) = false)
    (he : starEach (e :: es) (envOfC qg sg s.heap.objs.size g cdg) = (false, eval e (envOfC qg sg s.heap.objs.size g cdg)) :: starEach es (envOfC qg sg s.heap.objs.size g cdg)) (hpl : (backTo p2 (starEach es (envOfC qg sg s.heap.objs.size g cdg))).any (·.1) = false) :
    PE (cxOf CXg X.prog X.w X.K X.mg X.base Ng qg sg g cdg X.A X.stack s H Eg).nox (.Call (.Name a p1) (e :: es) [] p2)
      (fun σZ HZ Q => σZ[i]? = some (some (.ref f)) ∧ t σZ HZ fun vs H1 => vs.length = ps.length ∧ H1 F.c = some (CodeO F.c F.qual) ∧ tb (startF N vs ws) H1 Q) := by
  refine ⟨fun pinsZ sZ σZ HZ Q IZ h => ?_⟩
  obtain ⟨hs, ht⟩ := h
  refine wpAny_Call_Name_kw (thn ((pe_var (pos := p1) (i := i) hN hv hd hcd).run pinsZ sZ σZ HZ (fun v H1 => v = .ref f ∧ H1 = HZ) IZ ⟨.ref f, hs, rfl, rfl⟩) fun u s1 ⟨v, H1, I1, r1, q1⟩ => ?_)
  obtain ⟨ev, eH⟩ := q1
  subst ev
  rw [eH] at I1
  obtain rfl : u = Value.ref f := r1
  have fnAt : ∀ {σ2 : L2.St} {H2 : Hp} {s2 : Shared} {p2 : List (Addr × Obj)}, Inv (cxOf CXg X.prog X.w X.K X.mg X.base Ng qg sg g cdg X.A X.stack s H Eg).nox p2 σ2 H2 s2 → s2.heap.get? f = some (PySem.W.kla_obj "<lambda>" F.qual params body F.scope F.cl pm F.c ctv) := fun I2 =>
    I2.base.keep f _ hf hfn hfr (fun z => nomatch (show f ∈ ([] : List Addr) from z))
  refine PySem.W.callWith_F (first := []) ⟨_, _, _, _, fnAt I1⟩ (thn (ha.run p2 pinsZ s1 σZ HZ _ I1 ht) fun us s2 ⟨vs, H2, I2, r, hl, hc, q⟩ => ⟨⟨_, _, _, _, fnAt I2⟩, ?_⟩) he hpl
  show wpAny _ _ (call (.ref f) us) _ _ _
  have C2 : CellsAt F.cl fr ws s2.heap H2 := cells_un C I2.base
  have rc : codeAny (model X.prog X.w) (X.A.deeper (envOfC qg sg s.heap.objs.size g cdg)) (.call (.ref f) ⟨us, []⟩) (CR L2.CX0 (envOfC qg sg s.heap.objs.size g cdg :: X.stack) X.prog X.w H2 s2 Q L2.E0) s2 :=
    lam_run S (fnAt I2) (codeO_at I2.hok hc) (hbind us (by rw [← r.length]; exact hl)) hl hr I2.env0 C2 r (hbody _ _ _ _) q
  refine wpAny_call (codeAny_mono rc fun r s' hq => ?_)
  cases r with
  | error e => exact (show False from hq).elim
  | ok fl =>
    cases fl with
    | ret u => exact I2.after hq
    | next => exact False.elim hq
    | brk => exact False.elim hq
    | cont => exact False.elim hq
end
/-- the def that calls what it got (its parameter a, the last one, in the slot i): what TT makes of the lambda's reading -/
def GivesL (P : Program) (w : World) (K : PySem.W.Frag) (mg : Str → Option Value) (base : Heap) (CXg : CXT) (Ng : List Str) (x : Str) (sg : Scope) (g : Addr) (cdg : Value) (bg : List Stmt) (i : Nat) (a q : Str) (n k : Nat) (TT : List V → (List V → Hp → VK → Prop) → Hp → VK → XK → Prop) : Prop :=
  ∀ (A : Around) (outer : List Env) (s : Shared) (H : Hp) (vs : List V) (f c' : Addr) (Q : VK) (E : XK) (sl : List V → Hp → VK → Prop), Room k (A.deeper (envOfC x sg s.heap.objs.size g cdg)) →
    (∀ {e : Expr} {es : List Expr} {t : TA} {p1 p2 : Pos}, PA (cxOf CXg P w K mg base Ng x sg g cdg A outer s H E).nox (e :: es) t → (∀ env : Env, starEach (e :: es) env = (false, eval e env) :: starEach es env) → (∀ env : Env, (backTo p2 (starEach es env)).any (·.1) = false) →
      PE (cxOf CXg P w K mg base Ng x sg g cdg A outer s H E).nox (.Call (.Name a p1) (e :: es) [] p2) (fun σZ HZ Q => σZ[i]? = some (some (.ref f)) ∧ t σZ HZ fun vs H1 => vs.length = n ∧ H1 c' = some (CodeO c' q) ∧ sl vs H1 Q)) →
    H c' = some (CodeO c' q) → TT vs sl H Q E →
    ∃ t, PSs (cxOf CXg P w K mg base Ng x sg g cdg A outer s H E) bg t ∧ t { nx := fun _ H' => Q .non H', rt := Q } (L2.start Ng (vs ++ [.ref f])) H
/-- x(e, .., lambda ..: body) -/
def tLamC (T : List (Addr × Str)) (m : Nat) (N : List Str) (js : List Nat) (TT : List V → (List V → Hp → VK → Prop) → Hp → VK → XK → Prop) (E : XK) (t : TA) (tb : TE) : TE := fun σ H Q => t σ H fun vs H1 => vs.length = m ∧ Tabs T H1 ∧ ∀ H2, ExtN H1 H2 → (∀ b, H2 b = none → H1 b = none) → Tabs T H2 →
  TT vs (fun zs H' Q' => tb (startF N zs (js.map (slotAt σ))) H' Q') H2 Q E
section
variable {X : Cx}
theorem pe_lamc {T : List (Addr × Str)} {CXg : CXT} {TT : List V → (List V → Hp → VK → Prop) → Hp → VK → XK → Prop} {x a : Str} {g c P : Addr} {k i : Nat} {pg : Arguments} {bg : List Stmt} {sg : Scope} {dV kV doc pm cdv ct oc : Value} {an od : Option Addr} {osl : Array (Option Value)} {Ng N ps psg fr : List Str} {js : List Nat}
    {params : Arguments} {body : Expr} {scope : Scope} {tb t1 t2 t3 : TE} {p lpos pos : Pos} {e1 e2 e3 : Expr} {E : XK} (hg : Gl X x) (hm : X.mg x = some (.ref g)) (hk : PySem.W.keepIn X.K (.ref g) = true)
    (lk : X.K.lookup g = some ⟨oc, od, .func (PySem.W.fnOf x x pg bg sg dV kV doc pm an cdv ct), osl⟩) (hcg : PySem.W.codeIn X.K cdv x = true) (hb : L2.Binds X.K (PySem.W.fnOf x x pg bg sg dV kV doc pm an cdv ct) psg []) (hp4 : psg.length = 4) (Sg : FnScope Ng psg sg) (hNg : Ng[i]? = some a) (hva : Vis sg a)
    (hG : GivesL X.prog X.w X.K X.mg X.base CXg Ng x sg g cdv bg i a (X.env.qual ++ "<lambda>") ps.length (k + 1) TT) (hx : Passes CXg X E)
    (TB : TabB X.base X.mg c P) (hcode : X.env.code = .ref c) (hmT : (P, X.env.qual ++ "<lambda>") ∈ T) (hu : ∀ p ∈ T, p.1 = P → p.2 = X.env.qual ++ "<lambda>") (hr : Room (k + 2) X.A) (S : NScope N ps fr scope) (hfree : ∀ y ∈ scope.names, y.2 = .free → X.env.scope.names.lookup y.1 = some .cell ∨ X.env.scope.names.lookup y.1 = some .free)
    (hfr : ∀ y ∈ fr, (y, NameKind.free) ∈ scope.names) (hjs : js.map (fun j => X.N[j]?) = fr.map some) (hdef : defaultsOf params X.env = ([], []))
    (hbind : ∀ (q : Str) (cl : List (Str × Addr)) (pm cv ctv : Value) (us : List Value), us.length = ps.length → bindArgs (PySem.W.kla_fn "<lambda>" q params body scope cl pm cv ctv) ⟨us, []⟩ = pure (ps.zip us))
    (h1 : PE X e1 t1) (h2 : PE X e2 t2) (h3 : PE X e3 t3)
    (hbody : ∀ (A : Around) (outer : List Env) (s : Shared) (H : Hp) (f c' : Addr), Room k (A.deeper (envF ⟨"<lambda>", X.env.qual ++ "<lambda>", params, [], scope, cloFrom X.env.cells scope.names [], c'⟩ f s.heap.objs.size)) →
      PE (ncx L2.CX0 X.prog X.w X.K X.mg X.base N ⟨"<lambda>", X.env.qual ++ "<lambda>", params, [], scope, cloFrom X.env.cells scope.names [], c'⟩ f A outer s H L2.E0) body tb)
    (hdb : (x == ("__debug__" : Str)) = false := by decide) (hd : (a == ("__debug__" : Str)) = false := by decide) (hcd : (a == ("__classdict__" : Str)) = false := by decide)
    (hst : starEach [e1, e2, e3, .Lambda params body scope lpos] X.env = [(false, eval e1 X.env), (false, eval e2 X.env), (false, eval e3 X.env), (false, eval (.Lambda params body scope lpos) X.env)] := by rfl)
    (hs1 : starEach [e1, e2, e3, .Lambda params body scope lpos] X.env = (false, eval e1 X.env) :: starEach [e2, e3, .Lambda params body scope lpos] X.env := by rfl)
    (hpl : (backTo pos (starEach [e2, e3, .Lambda params body scope lpos] X.env)).any (·.1) = false := by rfl) :
    PE X (.Call (.Name x p) [e1, e2, e3, .Lambda params body scope lpos] [] pos) (tLamC T 3 N js TT E (tCons t1 (tCons t2 (tCons t3 tNil))) tb) := by
  refine ⟨fun pins s σ H Q I h => ?_⟩
  refine wpAny_Call_Name_kw (ld_glob I hg hm ?_ hdb)
  refine PySem.W.callWith_K (h₀ := X.base) I.ok.mod.kin hk ?_ hs1 hpl
  rw [hst]
  show wpAny _ _ (spliced ((false, eval e1 X.env) :: (false, eval e2 X.env) :: (false, eval e3 X.env) :: (false, eval (.Lambda params body scope lpos) X.env) :: [])) _ _ s
  refine Calls.spliced_cons (thn (h1.run pins s σ H _ I h) fun u1 s1 ⟨v1, H1, I1, r1, q1⟩ => ?_)
  refine Calls.spliced_cons (thn (h2.run pins s1 σ H1 _ I1 q1) fun u2 s2 ⟨v2, H2, I2, r2, q2⟩ => ?_)
  refine Calls.spliced_cons (thn (h3.run pins s2 σ H2 _ I2 q2) fun u3 s3 ⟨v3, H3, I3, r3, q3⟩ => ?_)
  obtain ⟨_, hT, h⟩ := q3
  have hf0 : ∀ y ∈ scope.names, y.2 = .free → ∃ c, X.env.cells.lookup y.1 = some c := fun y hy e => (hfree y hy e).elim (fun z => I3.ok.has _ (.inl z)) fun z => I3.ok.has _ (.inr z)
  refine Calls.spliced_cons (lam_mk I3 TB hcode hmT hu hT hdef hf0 fun f c' pm' ctv H4 s4 I4 eN gone T1 hf hfn hfrs hco => ?_)
  refine Calls.spliced_nil ⟨I4.kIn, ?_⟩
  have C4 : CellsAt (cloFrom X.env.cells scope.names []) fr (js.map (slotAt σ)) s4.heap H4 := cells_of I4 (Caps.made I4.ok hfree hfr hjs)
  have rc : codeAny (model X.prog X.w) X.A (.call (.ref g) ⟨[u1, u2, u3, .ref f], []⟩) (CR CXg X.stack X.prog X.w H4 s4 Q E) s4 := by
    refine run_ofS (N := Ng) (ps := psg) (us := [u1, u2, u3, .ref f]) (vs := [v1, v2, v3, .ref f]) lk hcg Sg hr I4.env0 (hb s4 [u1, u2, u3, .ref f] I4.kIn (by rw [hp4]; rfl)) (.cons r1 (.cons r2 (.cons r3 (.cons rfl .nil)))) (by rw [hp4]; rfl) fun hr' => ?_
    refine hG X.A X.stack s4 H4 [v1, v2, v3] f c' Q E (fun zs H' Q' => tb (startF N zs (js.map (slotAt σ))) H' Q') hr' (fun {e es t p1 p2} ha hse hpe => ?_) hco (h H4 eN gone T1)
    exact pe_act1 (F := ⟨"<lambda>", X.env.qual ++ "<lambda>", params, [], scope, cloFrom X.env.cells scope.names [], c'⟩) I4 S hf hfn hfrs C4 (fun us hl => hbind _ _ _ _ _ us hl) hr' (fun A outer s H hr2 => hbody A outer s H f c' hr2) hNg hva ha hd hcd (hse _) (hpe _)
  refine wpAny_call (codeAny_mono rc fun r s2 hq => ?_)
  cases r with
  | error e => exact hx pins σ H4 s4 e s2 I4 hq
  | ok fl =>
    cases fl with
    | ret u => exact I4.after hq
    | next => exact False.elim hq
    | brk => exact False.elim hq
    | cont => exact False.elim hq
end
end WLam

set_option Elab.async false
set_option linter.all false
set_option maxRecDepth 100000
set_option maxHeartbeats 4000000
/-! for i, x in enumerate(t), t a tuple. -/
namespace PySem
open AutoSeq1 (wpAny_loadPart')
theorem meets_enumerate_new1 {v : Value} {o : Obj} {H : Heap → Prop} (B : Begins v o H) :
    Meets (Builtin.«enumerate.__new__» ⟨[.type "enumerate", v], []⟩) (fun _ R s => H s.heap ∧
      R (.ok (.ret (.ref (s.heap.push o).objs.size))) { s with heap := (s.heap.push o).push { cls := .type "enumerate", data := .fields #[.none, .bool false, .ref s.heap.objs.size, rawInt 0, .none, .none] } }) :=
  .of_wp fun prog w A R s h => by
    obtain ⟨hp, g, d, tk, os⟩ := s; obtain ⟨h1, h⟩ := h
    have hsub := sub_enumerate
    have q1 : ∀ {A' : Around} {E : Value → Shared → Prop} {Q : Value → Shared → Prop}, Q (.ref hp.objs.size) ⟨hp.push o, g, d, tk, os⟩ → wpAny (model prog w) A' (pyIter v) Q E ⟨hp, g, d, tk, os⟩ :=
      fun q => B.iter prog w _ _ ⟨hp, g, d, tk, os⟩ _ h1 q
    wp_walk using q1
    refine wpAny_stack_any fun st => wpAny_pure ?_
    split
    · rename_i c _ _ _ _ _
      cases (c == Value.type "enumerate")
      · wp_walk using q1
        exact ⟨_, rfl, h⟩
      · wp_walk using q1
        exact ⟨_, rfl, h⟩
    · wp_walk using q1
      exact ⟨_, rfl, h⟩
section
variable {prog : Program} {w : World} {A : Around} {E : Value → Shared → Prop} {s : Shared}
theorem enum_begins1 {v : Value} {o : Obj} {H : Heap → Prop} {Q : Value → Shared → Prop} (B : Begins v o H) (h1 : H s.heap)
    (h : ∀ h', IsEnum h' (s.heap.objs.size + 1) s.heap.objs.size 0 .none → h'.get? s.heap.objs.size = some o → h'.objs.size = s.heap.objs.size + 2 →
      (∀ b o, s.heap.get? b = some o → h'.get? b = some o) → Q (.ref (s.heap.objs.size + 1)) { s with heap := h' }) :
    wpAny (model prog w) A (call (.type "enumerate") [v]) Q E s := by
  refine callType_new F.called_enumerate (by decide) (F.typeCall_enumerate_1 _) (F.newCall_enumerate_1 _) (fun obj => F.args_object_init_2 obj _) F.entry_enumerate_new
    (meets_enumerate_new1 B) ⟨h1, ?_⟩
  have hz : (s.heap.push o).objs.size = s.heap.objs.size + 1 := Heap.size_push ..
  show _ ∧ _
  rw [hz]
  have he : IsEnum ((s.heap.push o).push { cls := .type "enumerate", data := .fields #[.none, .bool false, .ref s.heap.objs.size, rawInt 0, .none, .none] }) (s.heap.objs.size + 1) s.heap.objs.size 0 .none := by
    have := Heap.get?_push_size (s.heap.push o) (o := { cls := .type "enumerate", data := .fields #[.none, .bool false, .ref s.heap.objs.size, rawInt 0, .none, .none] }) rfl
    rw [hz] at this; exact this
  refine ⟨⟨_, he, rfl⟩, h _ he (Heap.get?_push_of_some _ (Heap.get?_push_size _ B.free)) (by rw [Heap.size_push, hz]) fun b o x => Heap.get?_push_of_some _ (Heap.get?_push_of_some _ x)⟩
theorem wpAny_pyNext_enum_endT {e it t : Addr} {i : Int} {j : Nat} {items : Array Value} {old : Value} {Q : Option Value → Shared → Prop} (hh : A.in1.handled = none)
    (he : IsEnum s.heap e it i old) (hit : s.heap.IsTupleIter it t j) (ht : s.heap.IsTuple t items) (hx : items[j]? = none)
    (hQ : ∀ h', Heap.ExtBut it s.heap h' → Q none { s with heap := h' }) : wpAny (model prog w) A (pyNext (.ref e)) Q E s := by
  have hT : s.TypeIs (.ref e) "enumerate" := ⟨_, he, rfl⟩
  unfold pyNext
  refine wpAny_bind (wpAny_attempt (wpAny_callSpecial?_slot (name := Str.ofString "__next__") hT F.slot_enumerate_next
    (wpAny_call_entry F.slot_enumerate_next hT F.entry_enumerate_next ?_ (F.args_enumerate_next_1 _))))
  show wpAny _ _ (field (.ref e) 2 >>= _) _ _ _
  refine wpAny_bind (wpAny_field he rfl (x := .ref it) rfl ?_)
  refine wpAny_bind (wpAny_nextOf_tuple_end hh hit ht hx fun h' x he' hx' => ?_)
  obtain ⟨o, ho, hc⟩ := hx'
  refine wpAny_bind (wpAny_isInstance (T := "StopIteration") (b := true) ⟨o, ho, hc⟩ isSubtype_stop ?_)
  exact wpAny_pure (hQ _ he')
end
end PySem
namespace WEnum
open PySem PySem.Spec PyProof.Rows L2
/-- the tuple at a, each item in a new pair -/
def IteT (K : PySem.W.Frag) (a : Addr) : It :=
  ⟨fun i H => ∃ (xs : List V) (x : V), SqT K H a xs ∧ xs[i]? = some x, fun i H v H' => ∃ T x, v = .ref T ∧ H T = none ∧ H' = upd H T (.tup [.int (i : Nat), x]) ∧ ∀ xs, SqT K H a xs → xs[i]? = some x, fun i H => ∃ xs : List V, SqT K H a xs ∧ xs.length ≤ i⟩
theorem turn_enumT {P : Program} {w : World} {K : PySem.W.Frag} {elts : List Expr} {kk : Nat} {tpos : Pos} (a e it : Addr) (hae : a ≠ e) (hai : a ≠ it) :
    Turn P w K (.Tuple elts kk tpos) (IteT K a) [e, it] e (fun i h => (∃ old, IsEnum h e it ((i : Nat) : Int) old) ∧ h.IsTupleIter it a i ∧ e ≠ it) where
  mem := by simp
  obj := fun i h st b hb => by
    obtain ⟨⟨old, he⟩, ⟨o, ho, hc, hd⟩, _⟩ := st
    have e' : b = e ∨ b = it := by simpa using hb
    rcases e' with z | z
    · rw [z]; exact ⟨_, he, fun v q => nomatch q⟩
    · rw [z]; exact ⟨o, ho, fun v q => by rw [hd] at q; cases q⟩
  keep := fun i h h' st k => let ⟨⟨old, he⟩, hi, hne⟩ := st; ⟨⟨old, k e (by simp) _ he⟩, hi.at fun o q => k it (by simp) o q, hne⟩
  item := by
    intro X hP hw hK hc i pins s σ H E I hf st hg
    subst hP hw hK
    obtain ⟨⟨old, he⟩, hit, hne⟩ := st
    obtain ⟨xs, x, hq, hx⟩ := hg
    obtain ⟨its, rv, p, hz⟩ := I.tuple hq
    obtain ⟨u, hu, ru⟩ := rv.get hx
    have hel : e < s.heap.objs.size := Heap.lt_size he
    have hil : it < s.heap.objs.size := by obtain ⟨_, q, _⟩ := hit; exact Heap.lt_size q
    have hlt : i < its.toArray.size := by
      have z := (List.getElem?_eq_some_iff.mp hu).1
      rw [List.size_toArray]
      exact z
    refine wpAny_pyNext_enum_itemD (Draws.tuple (A := X.A.in1) (show X.A.in1.handled = none from I.ok.hd hc) it a hai its.toArray) he ⟨hit, p⟩ hlt hne (by simp [hne, hae.symm]) fun x' h' tk hP' ho hst hT hsz hk => ?_
    have ex : x' = u := by
      have q : its.toArray[i]? = some x' := hP'
      rw [List.getElem?_toArray, hu] at q
      exact (Option.some.inj q).symm
    subst ex
    refine ⟨_, rfl, wpAny_letOwnedTupleGo_enum (s := { s with heap := h', toks := tk + 1 }) ho fun h'' he' sb => ?_⟩
    have hT2 : h''.get? s.heap.objs.size = some { cls := .type "tuple", data := .seq #[.int i tk, x'] } := (sb.2 _ (Nat.ne_of_gt hel)).trans hT
    have new : ObjOk X.prog X.w (upd H s.heap.objs.size (.tup [.int (i : Nat), x])) h'' s.heap.objs.size (.tup [.int (i : Nat), x]) :=
      ⟨by show 2 ≤ sizeLine; decide, [.int i tk, x'], .cons ⟨_, rfl⟩ (.cons ru .nil), ⟨_, hT2, rfl, _, rfl⟩⟩
    have I1 : Inv X pins σ (upd H s.heap.objs.size (.tup [.int (i : Nat), x])) { s with heap := h'', toks := tk + 1 } :=
      I.turnedNew (ch := [e, it]) (fun b ob hb q => (sb.2 b (fun z => hb (by simp [z]))).trans (hk b ob (fun z => hb (by simp [z])) (fun z => hb (by simp [z])) q)) hf (Nat.le_refl _) new
    refine ⟨.ref s.heap.objs.size, _, I1, rfl, ⟨_, x, rfl, I.hok.fresh (Nat.le_refl _), rfl, fun ys hy => by rw [I.tuple_inj hy hq]; exact hx⟩, ⟨⟨x', ?_⟩, hst.1.at fun o q => (sb.2 it (Ne.symm hne)).trans q, hne⟩, fun b hb => ?_⟩
    · have e1 : ((i + 1 : Nat) : Int) = (i : Int) + 1 := by omega
      rw [e1]; exact he'
    · have hb' : b < s.heap.objs.size := by
        have e' : b = e ∨ b = it := by simpa using hb
        rcases e' with z | z
        · rw [z]; exact hel
        · rw [z]; exact hil
      rw [upd_ne (Nat.ne_of_lt hb')]
      exact (hf b hb).1
  done := by
    intro X hP hw hK hc i pins s σ H E I hf st hg
    subst hP hw hK
    obtain ⟨⟨old, he⟩, hit, hne⟩ := st
    obtain ⟨xs, hq, hx⟩ := hg
    obtain ⟨its, rv, p, hz⟩ := I.tuple hq
    obtain ⟨f0, f1, f2, f3, f4, f5⟩ := hf it (by simp)
    have hl := rv.length
    exact wpAny_pyNext_enum_endT (show X.A.in1.handled = none from I.ok.hd hc) he hit p (by simp; omega) fun h' eb => ⟨rfl, I.turned (t' := s.toks) (fun b o hb q => eb b o hb q) f0 f1 f3 f4 f5⟩
  self := fun A i s Q E st h => let ⟨⟨_, he⟩, _⟩ := st; wpAny_pyIter_enum he h
def iEnumT (K : PySem.W.Frag) (ta : TA) : TI := fun σ H R => ta σ H fun vs H1 => ∃ a xs, vs = [.ref a] ∧ SqT K H1 a xs ∧ R (IteT K a) H1
theorem pi_enumT {X : Cx} {e : Expr} {ta : TA} {p pos tpos : Pos} {elts : List Expr} {kk : Nat} (hg : Gl X "enumerate") (hm : X.mg "enumerate" = none) (ha : PA X [e] ta) (hs : starEach [e] X.env = [(false, eval e X.env)] := by rfl) :
    PI X (.Tuple elts kk tpos) (.Call (.Name "enumerate" p) [e] [] pos) (iEnumT X.K ta) := by
  refine ⟨fun pins s σ H R I h => ?_⟩
  refine Call_ (ld_blt I hg hm boot_enumerate (PyProof.Rows.callWith_type1 (thn (ha.run pos pins s σ H _ I h) fun us s1 ⟨vs, H1, I1, r1, q1⟩ => ?_) hs rfl))
  obtain ⟨a, xs, ex, hq, q⟩ := q1
  subst ex
  cases r1 with
  | cons r rr =>
    cases rr
    cases r
    obtain ⟨its, rv, p', hz⟩ := I1.tuple hq
    have hal : a < s1.heap.objs.size := by
      obtain ⟨o, ho, _⟩ := p'
      exact Heap.lt_size ho
    refine enum_begins1 (begins_tuple a its.toArray) p' fun h' he hit hsz hk => wpAny_pyIter_enum he ?_
    have I2 : Inv X pins σ H1 { s1 with heap := h' } := I1.kept (t' := s1.toks) hk
    refine ⟨s1.heap.objs.size + 1, [s1.heap.objs.size + 1, s1.heap.objs.size], _, _, H1, rfl, I2, turn_enumT a (s1.heap.objs.size + 1) s1.heap.objs.size (Nat.ne_of_lt (Nat.lt_succ_of_lt hal)) (Nat.ne_of_lt hal), ⟨⟨.none, he⟩, ⟨_, hit, rfl, rfl⟩, Nat.succ_ne_self _⟩, fun b hb => ?_, q⟩
    have e' : b = s1.heap.objs.size + 1 ∨ b = s1.heap.objs.size := by simpa using hb
    have hle : s1.heap.objs.size ≤ b := by
      rcases e' with z | z
      · rw [z]; exact Nat.le_add_right _ _
      · rw [z]; exact Nat.le_refl _
    exact I1.fpOk hle (I1.hok.fresh hle)
/-- enumerate(x), x a list or a tuple -/
def iEnumA (K : PySem.W.Frag) (ta : TA) : TI := fun σ H R => ta σ H fun vs H1 => ∃ a xs, vs = [.ref a] ∧ ((SqL K H1 a xs ∧ R (Ite K a) H1) ∨ (SqT K H1 a xs ∧ R (IteT K a) H1))
theorem pi_enumA {X : Cx} {e : Expr} {ta : TA} {p pos tpos : Pos} {elts : List Expr} {kk : Nat} (hg : Gl X "enumerate") (hm : X.mg "enumerate" = none) (ha : PA X [e] ta) (hs : starEach [e] X.env = [(false, eval e X.env)] := by rfl) :
    PI X (.Tuple elts kk tpos) (.Call (.Name "enumerate" p) [e] [] pos) (iEnumA X.K ta) := by
  refine ⟨fun pins s σ H R I h => ?_⟩
  refine Call_ (ld_blt I hg hm boot_enumerate (PyProof.Rows.callWith_type1 (thn (ha.run pos pins s σ H _ I h) fun us s1 ⟨vs, H1, I1, r1, q1⟩ => ?_) hs rfl))
  obtain ⟨a, xs, ex, q2⟩ := q1
  subst ex
  cases r1 with
  | cons r rr =>
    cases rr
    cases r
    have hle : ∀ b, b = s1.heap.objs.size + 1 ∨ b = s1.heap.objs.size → s1.heap.objs.size ≤ b := fun b e' => by
      rcases e' with z | z
      · rw [z]; exact Nat.le_add_right _ _
      · rw [z]; exact Nat.le_refl _
    rcases q2 with ⟨hq, q⟩ | ⟨hq, q⟩
    · obtain ⟨its, rv, p', hz⟩ := I1.list hq
      refine call_enumerate_list p'.isList fun h' he hit hsz hk => wpAny_pyIter_enum he ?_
      have I2 : Inv X pins σ H1 { s1 with heap := h' } := I1.kept (t' := s1.toks) hk
      refine ⟨s1.heap.objs.size + 1, [s1.heap.objs.size + 1, s1.heap.objs.size], _, _, H1, rfl, I2, turn_enum a (s1.heap.objs.size + 1) s1.heap.objs.size, ⟨⟨.none, he⟩, hit, Nat.succ_ne_self _⟩, fun b hb => ?_, q⟩
      have e' : b = s1.heap.objs.size + 1 ∨ b = s1.heap.objs.size := by simpa using hb
      exact I1.fpOk (hle b e') (I1.hok.fresh (hle b e'))
    · obtain ⟨its, rv, p', hz⟩ := I1.tuple hq
      have hal : a < s1.heap.objs.size := by
        obtain ⟨o, ho, _⟩ := p'
        exact Heap.lt_size ho
      refine enum_begins1 (begins_tuple a its.toArray) p' fun h' he hit hsz hk => wpAny_pyIter_enum he ?_
      have I2 : Inv X pins σ H1 { s1 with heap := h' } := I1.kept (t' := s1.toks) hk
      refine ⟨s1.heap.objs.size + 1, [s1.heap.objs.size + 1, s1.heap.objs.size], _, _, H1, rfl, I2, turn_enumT a (s1.heap.objs.size + 1) s1.heap.objs.size (Nat.ne_of_lt (Nat.lt_succ_of_lt hal)) (Nat.ne_of_lt hal), ⟨⟨.none, he⟩, ⟨_, hit, rfl, rfl⟩, Nat.succ_ne_self _⟩, fun b hb => ?_, q⟩
      have e' : b = s1.heap.objs.size + 1 ∨ b = s1.heap.objs.size := by simpa using hb
      exact I1.fpOk (hle b e') (I1.hok.fresh (hle b e'))
theorem walk_enumT {K : PySem.W.Frag} {a : Addr} {xs : List V} : Walk (IteT K a) xs.length (fun H => SqT K H a xs) (YPair (fun i => some (.int (i : Nat))) (fun i => xs[i]?)) := by
  refine ⟨fun i _ hi q => ⟨xs, xs[i], q, by simp [hi]⟩, fun _ q => ⟨xs, q, Nat.le_refl _⟩, fun i H v H' _ q y => ?_⟩
  obtain ⟨T, x, h1, h2, h3, h4⟩ := y
  exact ⟨T, .int (i : Nat), x, h1, h2, h3, rfl, h4 xs q⟩
end WEnum

set_option Elab.async false
set_option linter.all false
set_option maxRecDepth 100000
set_option maxHeartbeats 4000000
/-! What a reading evaluates to, over a resource: tables of code objects, lists that may change, a number that is spent. -/
namespace WE
open PySem PySem.Spec PyProof.Rows L2 LamX
/-- T: the tables; M: the lists that may change; G n: what holds of these, n still to spend -/
structure Rs where
  T : List (Addr × Str)
  M : Addr → Prop
  G : Nat → Hp → Prop
  mono : ∀ m n H, m ≤ n → G n H → G m H
  loc : ∀ m H H', (∀ b, M b → H' b = H b) → G m H → G m H'
structure Xt (R : Rs) (H H' : Hp) : Prop where
  keep : ∀ b o, H b = some o → ¬ R.M b → (∀ ps, o ≠ .tbl ps) → H' b = some o
  tup : ∀ b xs, H b = some (.tup xs) → H' b = some (.tup xs)
  frz : ∀ b o u, H b = some (.frz o u) → H' b = some (.frz o u)
  mon : ∀ b, H' b = none → H b = none
/-- what may stand at an address that may change -/
def Mut (o : HO) : Prop := (∃ xs, o = .lst xs) ∨ (∃ C dx fs, o = .ins C dx fs) ∨ ∃ kvs, o = .dK kvs
structure Ok (R : Rs) (m : Nat) (H : Hp) : Prop where
  tab : Tabs R.T H
  ml : ∀ b, R.M b → ∃ o, H b = some o ∧ Mut o
  g : R.G m H
section
variable {R : Rs} {H H1 H2 H' : Hp} {p : Addr} {o : HO} {m n : Nat}
theorem Xt.refl (H : Hp) : Xt R H H := ⟨fun _ _ h _ _ => h, fun _ _ h => h, fun _ _ _ h => h, fun _ h => h⟩
theorem Xt.trans (a : Xt R H H1) (b : Xt R H1 H2) : Xt R H H2 :=
  ⟨fun c o h1 h2 h3 => b.keep c o (a.keep c o h1 h2 h3) h2 h3, fun c xs h => b.tup c xs (a.tup c xs h), fun c o u h => b.frz c o u (a.frz c o u h), fun c h => a.mon c (b.mon c h)⟩
theorem Xt.new (h : H p = none) : Xt R H (upd H p o) := by
  refine ⟨fun b u e _ _ => ?_, fun b xs e => ?_, fun b u xs e => ?_, fun b e => ?_⟩
  · rw [upd_ne (ne_of_none e h)]; exact e
  · rw [upd_ne (ne_of_none e h)]; exact e
  · rw [upd_ne (ne_of_none e h)]; exact e
  · unfold upd at e
    split at e
    · cases e
    · exact e
/-- an object that was not there at H may change -/
theorem Xt.own (x : Xt R H H1) (h : H p = none) : Xt R H (upd H1 p o) := by
  refine ⟨fun b u e n1 n2 => ?_, fun b xs e => ?_, fun b u xs e => ?_, fun b e => ?_⟩
  · rw [upd_ne (ne_of_none e h)]; exact x.keep b u e n1 n2
  · rw [upd_ne (ne_of_none e h)]; exact x.tup b xs e
  · rw [upd_ne (ne_of_none e h)]; exact x.frz b u xs e
  · unfold upd at e
    split at e
    · cases e
    · exact x.mon b e
theorem Ok.mono (k : Ok R n H) (h : m ≤ n) : Ok R m H := ⟨k.tab, k.ml, R.mono _ _ _ h k.g⟩
theorem Ok.new (k : Ok R m H) (h : H p = none) : Ok R m (upd H p o) := by
  have hb : ∀ b, R.M b → upd H p o b = H b := fun b hm => by
    obtain ⟨xs, e, _⟩ := k.ml b hm
    exact upd_ne (ne_of_none e h)
  refine ⟨k.tab.ext fun b u e => by rw [upd_ne (ne_of_none e h)]; exact e, fun b hm => ?_, R.loc _ _ _ hb k.g⟩
  rw [hb b hm]
  exact k.ml b hm
theorem Ok.fresh (k : Ok R m H) (h : H p = none) : ¬ R.M p := fun z => by
  obtain ⟨xs, e, _⟩ := k.ml p z
  rw [h] at e
  cases e
theorem Xt.rd {u : HO} {a : Addr} (x : Xt R H H') (h : Rd H a u) (hn : ¬ R.M a ∨ ∃ xs, u = .tup xs) (ht : ∀ ps, u ≠ .tbl ps) : Rd H' a u := by
  rcases h with h | ⟨o, h⟩
  · rcases hn with hn | ⟨xs, e⟩
    · exact .inl (x.keep _ _ h hn ht)
    · subst e
      exact .inl (x.tup _ _ h)
  · exact .inr ⟨o, x.frz _ _ _ h⟩
theorem Xt.seqT {K : PySem.W.Frag} {a : Addr} {xs : List V} (x : Xt R H H') (h : SqT K H a xs) : SqT K H' a xs := by
  rcases h with h | h
  · exact .inl (x.rd h (.inr ⟨_, rfl⟩) (fun _ z => nomatch z))
  · exact .inr h
theorem Xt.seqL {K : PySem.W.Frag} {a : Addr} {xs : List V} (x : Xt R H H') (h : SqL K H a xs) (hn : ¬ R.M a) : SqL K H' a xs := by
  rcases h with h | h
  · exact .inl (x.rd h (.inl hn) (fun _ z => nomatch z))
  · exact .inr h
end
/-! ### data -/
mutual
inductive Dq (K : PySem.W.Frag) (M : Addr → Prop) (H : Hp) : V → PyData → Prop
  | non : Dq K M H .non .none
  | bl (b : Bool) : Dq K M H (.bl b) (.bool b)
  | int (i : Int) : Dq K M H (.int i) (.int i)
  | str (x : Str) : Dq K M H (.str x) (.str x)
  | lst {a : Addr} {xs : List V} {ds : List PyData} : SqL K H a xs → ¬ M a → DqAll K M H xs ds → Dq K M H (.ref a) (.list ds)
  | tup {a : Addr} {xs : List V} {ds : List PyData} : SqT K H a xs → DqAll K M H xs ds → Dq K M H (.ref a) (.tuple ds)
inductive DqAll (K : PySem.W.Frag) (M : Addr → Prop) (H : Hp) : List V → List PyData → Prop
  | nil : DqAll K M H [] []
  | cons {v : V} {vs : List V} {d : PyData} {ds : List PyData} : Dq K M H v d → DqAll K M H vs ds → DqAll K M H (v :: vs) (d :: ds)
end
section
variable {K : PySem.W.Frag} {R : Rs} {H H' : Hp}
mutual
theorem Dq.mono (x : Xt R H H') : ∀ {v : V} {d : PyData}, Dq K R.M H v d → Dq K R.M H' v d
  | _, _, .non => .non
  | _, _, .bl b => .bl b
  | _, _, .int i => .int i
  | _, _, .str z => .str z
  | _, _, .lst h n a => .lst (x.seqL h n) n (DqAll.mono x a)
  | _, _, .tup h a => .tup (x.seqT h) (DqAll.mono x a)
theorem DqAll.mono (x : Xt R H H') : ∀ {vs : List V} {ds : List PyData}, DqAll K R.M H vs ds → DqAll K R.M H' vs ds
  | _, _, .nil => .nil
  | _, _, .cons a b => .cons (Dq.mono x a) (DqAll.mono x b)
end
mutual
theorem Dq.dp {M : Addr → Prop} : ∀ {v : V} {d : PyData}, Dq K M H v d → Dp K H v d
  | _, _, .non => .non
  | _, _, .bl b => .bl b
  | _, _, .int i => .int i
  | _, _, .str z => .str z
  | _, _, .lst h n a => .lst h (DqAll.dp a)
  | _, _, .tup h a => .tup h (DqAll.dp a)
theorem DqAll.dp {M : Addr → Prop} : ∀ {vs : List V} {ds : List PyData}, DqAll K M H vs ds → DpAll K H vs ds
  | _, _, .nil => .nil
  | _, _, .cons a b => .cons (Dq.dp a) (DqAll.dp b)
end
theorem DqAll.length {M : Addr → Prop} : ∀ {vs : List V} {ds : List PyData}, DqAll K M H vs ds → vs.length = ds.length
  | _, _, .nil => rfl
  | _, _, .cons _ b => congrArg Nat.succ (DqAll.length b)
theorem DqAll.get {M : Addr → Prop} : ∀ {vs : List V} {ds : List PyData} {i : Nat} {d : PyData}, DqAll K M H vs ds → ds[i]? = some d → ∃ v, vs[i]? = some v ∧ Dq K M H v d
  | _, _, _, _, .nil, e => by simp at e
  | _, _, 0, _, .cons a _, e => by simp at e; subst e; exact ⟨_, rfl, a⟩
  | _, _, i + 1, d, .cons _ b, e => by
    obtain ⟨v, h1, h2⟩ := DqAll.get (i := i) (d := d) b (by simpa using e)
    exact ⟨v, by simpa using h1, h2⟩
theorem DqAll.getV {M : Addr → Prop} : ∀ {vs : List V} {ds : List PyData} {i : Nat} {v : V}, DqAll K M H vs ds → vs[i]? = some v → ∃ d, ds[i]? = some d ∧ Dq K M H v d
  | _, _, _, _, .nil, e => by simp at e
  | _, _, 0, _, .cons a _, e => by simp at e; subst e; exact ⟨_, rfl, a⟩
  | _, _, i + 1, d, .cons _ b, e => by
    obtain ⟨v, h1, h2⟩ := DqAll.getV (i := i) b (by simpa using e)
    exact ⟨v, by simpa using h1, h2⟩
theorem DqAll.append {M : Addr → Prop} : ∀ {vs ws : List V} {ds es : List PyData}, DqAll K M H vs ds → DqAll K M H ws es → DqAll K M H (vs ++ ws) (ds ++ es)
  | _, _, _, _, .nil, h => h
  | _, _, _, _, .cons a b, h => .cons a (DqAll.append b h)
theorem DqAll.take {M : Addr → Prop} : ∀ {vs : List V} {ds : List PyData} (n : Nat), DqAll K M H vs ds → DqAll K M H (vs.take n) (ds.take n)
  | _, _, 0, _ => .nil
  | _, _, _ + 1, .nil => .nil
  | _, _, n + 1, .cons a b => .cons a (DqAll.take n b)
theorem DqAll.drop {M : Addr → Prop} : ∀ {vs : List V} {ds : List PyData} (n : Nat), DqAll K M H vs ds → DqAll K M H (vs.drop n) (ds.drop n)
  | _, _, 0, h => h
  | _, _, _ + 1, .nil => .nil
  | _, _, n + 1, .cons _ b => DqAll.drop n b
end
/-! ### what a value is, as long as things go on -/
structure Rp (R : Rs) where
  r : V → Hp → Prop
  mono : ∀ v H H', Xt R H H' → r v H → r v H'
def dP (K : PySem.W.Frag) (R : Rs) (p : PyData → Prop) : Rp R := ⟨fun v H => ∃ d, Dq K R.M H v d ∧ p d, fun _ _ _ x ⟨d, h, q⟩ => ⟨d, h.mono x, q⟩⟩
def iP (R : Rs) (p : Int → Prop) : Rp R := ⟨fun v _ => ∃ i, v = .int i ∧ p i, fun _ _ _ _ h => h⟩
def bP (R : Rs) (p : Bool → Prop) : Rp R := ⟨fun v _ => ∃ b, v = .bl b ∧ p b, fun _ _ _ _ h => h⟩
def vP (R : Rs) (u : V) : Rp R := ⟨fun v _ => v = u, fun _ _ _ _ h => h⟩
def AllR {R : Rs} : List (Rp R) → List V → Hp → Prop
  | [], vs, _ => vs = []
  | P :: Ps, vs, H => ∃ v r, vs = v :: r ∧ P.r v H ∧ AllR Ps r H
theorem AllR.mono {R : Rs} {H H' : Hp} (x : Xt R H H') : ∀ {Ps : List (Rp R)} {vs : List V}, AllR Ps vs H → AllR Ps vs H'
  | [], _, h => h
  | P :: Ps, _, ⟨v, r, e, h, q⟩ => ⟨v, r, e, P.mono _ _ _ x h, AllR.mono x q⟩
/-! ### evaluation -/
/-- from n to m still to spend -/
def Ev (R : Rs) (n m : Nat) (te : TE) (σ : L2.St) (H : Hp) (P : Rp R) : Prop := ∀ H1, Xt R H H1 → Ok R n H1 → ∀ Q : VK, (∀ v H2, Xt R H1 H2 → Ok R m H2 → P.r v H2 → Q v H2) → te σ H1 Q
def EvT (R : Rs) (n m : Nat) (tt : TT) (σ : L2.St) (H : Hp) (p : Bool → Prop) : Prop := ∀ H1, Xt R H H1 → Ok R n H1 → ∀ Q : Bool → Hp → Prop, (∀ b H2, Xt R H1 H2 → Ok R m H2 → p b → Q b H2) → tt σ H1 Q
def EvA (R : Rs) (n m : Nat) (ta : TA) (σ : L2.St) (H : Hp) (Ps : List (Rp R)) : Prop := ∀ H1, Xt R H H1 → Ok R n H1 → ∀ Q : List V → Hp → Prop, (∀ vs H2, Xt R H1 H2 → Ok R m H2 → AllR Ps vs H2 → Q vs H2) → ta σ H1 Q
section
variable {K : PySem.W.Frag} {R : Rs} {σ : L2.St} {H H' : Hp} {n m k l : Nat} {ta tb te : TE} {t u : TT} {tl tr : TA} {P P1 P2 : Rp R} {Ps : List (Rp R)} {p q : Bool → Prop}
theorem Ev.at (h : Ev R n m te σ H P) (x : Xt R H H') : Ev R n m te σ H' P := fun H1 x1 => h H1 (x.trans x1)
theorem EvT.at (h : EvT R n m t σ H p) (x : Xt R H H') : EvT R n m t σ H' p := fun H1 x1 => h H1 (x.trans x1)
theorem EvA.at (h : EvA R n m tl σ H Ps) (x : Xt R H H') : EvA R n m tl σ H' Ps := fun H1 x1 => h H1 (x.trans x1)
theorem Ev.imp (h : Ev R n m te σ H P) (f : ∀ v H', Xt R H H' → P.r v H' → P1.r v H') : Ev R n m te σ H P1 := fun H1 x k Q q => h H1 x k Q fun v H2 x2 k2 r => q v H2 x2 k2 (f v H2 (x.trans x2) r)
theorem Ev.cost (h : Ev R n m te σ H P) (hc : k ≤ m) : Ev R n k te σ H P := fun H1 x z Q q => h H1 x z Q fun v H2 x2 k2 r => q v H2 x2 (k2.mono hc) r
theorem EvT.cost (h : EvT R n m t σ H p) (hc : k ≤ m) : EvT R n k t σ H p := fun H1 x z Q q => h H1 x z Q fun v H2 x2 k2 r => q v H2 x2 (k2.mono hc) r
theorem EvT.imp (h : EvT R n m t σ H p) (f : ∀ b, p b → q b) : EvT R n m t σ H q := fun H1 x k Q z => h H1 x k Q fun b H2 x2 k2 r => z b H2 x2 k2 (f b r)
theorem ev_var {i : Nat} {v : V} (h : σ[i]? = some (some v)) (r : P.r v H) : Ev R n n (tVar i) σ H P := fun H1 x k Q q => ⟨v, h, q v H1 (.refl _) k (P.mono _ _ _ x r)⟩
theorem ev_c {v : V} (r : ∀ H, P.r v H) : Ev R n n (tC v) σ H P := fun H1 x k Q q => q v H1 (.refl _) k (r H1)
theorem ev_op {r : R2} (ha : Ev R n k ta σ H P1) (hb : Ev R k l tb σ H P2) (hr : ∀ x y H1, Xt R H H1 → Ok R l H1 → P1.r x H1 → P2.r y H1 → ∀ Q : VK, (∀ v H2, Xt R H1 H2 → Ok R m H2 → P.r v H2 → Q v H2) → r x y H1 Q) : Ev R n m (tOp r ta tb) σ H P := fun H1 x k Q q =>
  ha H1 x k _ fun v H2 x2 k2 r2 => hb H2 (x.trans x2) k2 _ fun w H3 x3 k3 r3 => hr v w H3 ((x.trans x2).trans x3) k3 (P1.mono _ _ _ x3 r2) r3 Q fun z H4 x4 k4 r4 => q z H4 ((x2.trans x3).trans x4) k4 r4
theorem ev_un {r : V → Hp → VK → Prop} (ha : Ev R n k ta σ H P1) (hr : ∀ x H1, Xt R H H1 → Ok R k H1 → P1.r x H1 → ∀ Q : VK, (∀ v H2, Xt R H1 H2 → Ok R m H2 → P.r v H2 → Q v H2) → r x H1 Q) : Ev R n m (tUn r ta) σ H P := fun H1 x k Q q =>
  ha H1 x k _ fun v H2 x2 k2 r2 => hr v H2 (x.trans x2) k2 r2 Q fun z H4 x4 k4 r4 => q z H4 (x2.trans x4) k4 r4
theorem eva_nil : EvA R n n tNil σ H [] := fun H1 x k Q q => q [] H1 (.refl _) k rfl
theorem eva_cons (ha : Ev R n k ta σ H P) (hr : EvA R k m tr σ H Ps) : EvA R n m (tCons ta tr) σ H (P :: Ps) := fun H1 x k Q q =>
  ha H1 x k _ fun v H2 x2 k2 r2 => hr H2 (x.trans x2) k2 _ fun vs H3 x3 k3 r3 => q (v :: vs) H3 (x2.trans x3) k3 ⟨v, vs, rfl, P.mono _ _ _ x3 r2, r3⟩
theorem AllR.length : ∀ {Ps : List (Rp R)} {vs : List V}, AllR Ps vs H → vs.length = Ps.length
  | [], vs, h => by rw [show vs = [] from h]; rfl
  | P :: Ps, _, ⟨v, r, e, _, q⟩ => by rw [e]; exact congrArg Nat.succ (AllR.length q)
theorem ev_tup (h : EvA R n m tl σ H Ps) (hl : Ps.length ≤ 1000) (hp : ∀ p vs H1, Xt R H H1 → H1 p = some (.tup vs) → AllR Ps vs H1 → P.r (.ref p) H1) : Ev R n m (tTup tl) σ H P := fun H1 x k Q q =>
  h H1 x k _ fun vs H2 x2 k2 r2 => by
    have hlen := r2.length
    refine ⟨Nat.le_trans (by omega) (show 1000 ≤ sizeLine by decide), fun p hp2 => ?_⟩
    have xn : Xt R H2 (upd H2 p (.tup vs)) := .new hp2
    exact q _ _ (x2.trans xn) (k2.new hp2) (hp p vs _ ((x.trans x2).trans xn) upd_same (r2.mono xn))
theorem ev_lst (h : EvA R n m tl σ H Ps) (hl : Ps.length ≤ 1000) (hp : ∀ p vs H1, Xt R H H1 → ¬ R.M p → H1 p = some (.lst vs) → AllR Ps vs H1 → P.r (.ref p) H1) : Ev R n m (tLst tl) σ H P := fun H1 x k Q q =>
  h H1 x k _ fun vs H2 x2 k2 r2 => by
    have hlen := r2.length
    refine ⟨Nat.le_trans (by omega) (show 1000 ≤ sizeLine by decide), fun p hp2 => ?_⟩
    have xn : Xt R H2 (upd H2 p (.lst vs)) := .new hp2
    exact q _ _ (x2.trans xn) (k2.new hp2) (hp p vs _ ((x.trans x2).trans xn) (k2.fresh hp2) upd_same (r2.mono xn))
theorem ev_if (h : EvT R n k t σ H p) (h1 : p true → Ev R k m ta σ H P) (h2 : p false → Ev R k m tb σ H P) : Ev R n m (tIf t ta tb) σ H P := fun H1 x k Q q =>
  h H1 x k _ fun b H2 x2 k2 r2 => by
    cases b with
    | true => exact iteT (h1 r2 H2 (x.trans x2) k2 Q fun v H3 x3 k3 r3 => q v H3 (x2.trans x3) k3 r3)
    | false => exact iteF (h2 r2 H2 (x.trans x2) k2 Q fun v H3 x3 k3 r3 => q v H3 (x2.trans x3) k3 r3)
theorem evt_test (h : Ev R n m te σ H (bP R p)) : EvT R n m (tTest te) σ H p := fun H1 x k Q q => h H1 x k _ fun v H2 x2 k2 ⟨b, e, r⟩ => ⟨b, e, q b H2 x2 k2 r⟩
theorem evt_B (h : Ev R n m te σ H (bP R p)) : EvT R n m (tB te) σ H p := fun H1 x k Q q => h H1 x k _ fun v H2 x2 k2 ⟨b, e, r⟩ => ⟨b, e, q b H2 x2 k2 r⟩
theorem evt_not (h : EvT R n m t σ H p) : EvT R n m (tNot t) σ H (fun b => p (!b)) := fun H1 x k Q q => h H1 x k _ fun b H2 x2 k2 r => q (!b) H2 x2 k2 (by simpa using r)
theorem evt_and (h1 : EvT R n m t σ H p) (h2 : p true → EvT R m m u σ H q) : EvT R n m (tAnd t u) σ H (fun b => (b = false ∧ p false) ∨ (p true ∧ q b)) := fun H1 x k Q z =>
  h1 H1 x k _ fun b H2 x2 k2 r => by
    cases b with
    | true => exact iteT (h2 r H2 (x.trans x2) k2 Q fun b H3 x3 k3 r3 => z b H3 (x2.trans x3) k3 (.inr ⟨r, r3⟩))
    | false => exact iteF (z false H2 x2 k2 (.inl ⟨rfl, r⟩))
theorem evt_or (h1 : EvT R n m t σ H p) (h2 : p false → EvT R m m u σ H q) : EvT R n m (tOr t u) σ H (fun b => (b = true ∧ p true) ∨ (p false ∧ q b)) := fun H1 x k Q z =>
  h1 H1 x k _ fun b H2 x2 k2 r => by
    cases b with
    | true => exact iteT (z true H2 x2 k2 (.inl ⟨rfl, r⟩))
    | false => exact iteF (h2 r H2 (x.trans x2) k2 Q fun b H3 x3 k3 r3 => z b H3 (x2.trans x3) k3 (.inr ⟨r, r3⟩))
theorem ev_andV (h1 : Ev R n m ta σ H (bP R p)) (h2 : p true → Ev R m m tb σ H (bP R q)) : Ev R n m (tAndV ta tb) σ H (bP R fun b => (b = false ∧ p false) ∨ (p true ∧ q b)) := fun H1 x k Q z =>
  h1 H1 x k _ fun v H2 x2 k2 ⟨b, e, r⟩ => ⟨b, e, by
    cases b with
    | true => exact iteT (h2 r H2 (x.trans x2) k2 Q fun v H3 x3 k3 ⟨b3, e3, r3⟩ => z v H3 (x2.trans x3) k3 ⟨b3, e3, .inr ⟨r, r3⟩⟩)
    | false => exact iteF (z _ H2 x2 k2 ⟨false, rfl, .inl ⟨rfl, r⟩⟩)⟩
theorem ev_orV (h1 : Ev R n m ta σ H (bP R p)) (h2 : p false → Ev R m m tb σ H (bP R q)) : Ev R n m (tOrV ta tb) σ H (bP R fun b => (b = true ∧ p true) ∨ (p false ∧ q b)) := fun H1 x k Q z =>
  h1 H1 x k _ fun v H2 x2 k2 ⟨b, e, r⟩ => ⟨b, e, by
    cases b with
    | true => exact iteT (z _ H2 x2 k2 ⟨true, rfl, .inl ⟨rfl, r⟩⟩)
    | false => exact iteF (h2 r H2 (x.trans x2) k2 Q fun v H3 x3 k3 ⟨b3, e3, r3⟩ => z v H3 (x2.trans x3) k3 ⟨b3, e3, .inr ⟨r, r3⟩⟩)⟩
theorem ev_notV (h : Ev R n m ta σ H (bP R p)) : Ev R n m (tNotV ta) σ H (bP R fun b => p (!b)) := fun H1 x k Q z => h H1 x k _ fun v H2 x2 k2 ⟨b, e, r⟩ => ⟨b, e, z _ H2 x2 k2 ⟨!b, rfl, by simpa using r⟩⟩
/-! ints -/
theorem ev_int {i : Int} : Ev R n n (tC (.int i)) σ H (iP R (· = i)) := ev_c fun _ => ⟨i, rfl, rfl⟩
theorem ev_ivar {i : Nat} {z : Int} (h : σ[i]? = some (some (.int z))) : Ev R n n (tVar i) σ H (iP R (· = z)) := ev_var h ⟨z, rfl, rfl⟩
theorem ev_I0 {pi qi : Int → Prop} {g : Int → Int → V} (ha : Ev R n k ta σ H (iP R pi)) (hb : Ev R k m tb σ H (iP R qi)) (hp : ∀ i j H1, pi i → qi j → P.r (g i j) H1) : Ev R n m (tOp (rI0 g) ta tb) σ H P :=
  ev_op ha hb fun x y H1 _ k ⟨i, ei, pi⟩ ⟨j, ej, pj⟩ Q q => ⟨i, j, ei, ej, q _ H1 (.refl _) k (hp i j H1 pi pj)⟩
theorem ev_I {pi qi : Int → Prop} {C : Int → Int → Prop} {g : Int → Int → V} (ha : Ev R n k ta σ H (iP R pi)) (hb : Ev R k m tb σ H (iP R qi)) (hC : ∀ i j, pi i → qi j → C i j) (hp : ∀ i j H1, pi i → qi j → P.r (g i j) H1) : Ev R n m (tOp (rI C g) ta tb) σ H P :=
  ev_op ha hb fun x y H1 _ k ⟨i, ei, pi⟩ ⟨j, ej, pj⟩ Q q => ⟨i, j, ei, ej, hC i j pi pj, q _ H1 (.refl _) k (hp i j H1 pi pj)⟩
end
/-! ### statements -/
section
variable {K : PySem.W.Frag} {R : Rs} {σ : L2.St} {H H' : Hp} {n m : Nat} {te : TE} {t : TT} {P : Rp R} {p : Bool → Prop} {D : Ends} {tz tu tw : TS}
theorem q_asg {i : Nat} (k : Ok R n H) (h : Ev R n m te σ H P) (z : ∀ v H1, Xt R H H1 → Ok R m H1 → P.r v H1 → tz D (σ.set i (some v)) H1) : tSeq (tAsg te (gName i)) tz D σ H := h H (.refl _) k _ z
theorem s_asg {i : Nat} (k : Ok R n H) (h : Ev R n m te σ H P) (z : ∀ v H1, Xt R H H1 → Ok R m H1 → P.r v H1 → D.nx (σ.set i (some v)) H1) : tAsg te (gName i) D σ H := h H (.refl _) k _ z
theorem q_drop (k : Ok R n H) (h : Ev R n m te σ H P) (z : ∀ v H1, Xt R H H1 → Ok R m H1 → P.r v H1 → tz D σ H1) : tSeq (tDrop te) tz D σ H := h H (.refl _) k _ z
theorem s_drop (k : Ok R n H) (h : Ev R n m te σ H P) (z : ∀ v H1, Xt R H H1 → Ok R m H1 → P.r v H1 → D.nx σ H1) : tDrop te D σ H := h H (.refl _) k _ z
theorem s_ret (k : Ok R n H) (h : Ev R n m te σ H P) (z : ∀ v H1, Xt R H H1 → Ok R m H1 → P.r v H1 → D.rt v H1) : tRet te D σ H := h H (.refl _) k _ z
theorem q_if (k : Ok R n H) (h : EvT R n m t σ H p) (h1 : p true → ∀ H1, Xt R H H1 → Ok R m H1 → tu { D with nx := tz D } σ H1) (h2 : p false → ∀ H1, Xt R H H1 → Ok R m H1 → tw { D with nx := tz D } σ H1) : tSeq (tIfS t tu tw) tz D σ H :=
  h H (.refl _) k _ fun b H1 x k r => by
    cases b with
    | true => exact iteT (h1 r H1 x k)
    | false => exact iteF (h2 r H1 x k)
theorem s_if (k : Ok R n H) (h : EvT R n m t σ H p) (h1 : p true → ∀ H1, Xt R H H1 → Ok R m H1 → tu D σ H1) (h2 : p false → ∀ H1, Xt R H H1 → Ok R m H1 → tw D σ H1) : tIfS t tu tw D σ H :=
  h H (.refl _) k _ fun b H1 x k r => by
    cases b with
    | true => exact iteT (h1 r H1 x k)
    | false => exact iteF (h2 r H1 x k)
end
end WE

set_option Elab.async false
set_option linter.all false
set_option maxRecDepth 100000
set_option maxHeartbeats 4000000
/-! Contracts of defs by name, and what the operations on data give. -/
namespace WE
open PySem PySem.Spec PyProof.Rows L2 LamX
/-! ### a def of the module, by its name -/
structure Cal (P : Program) (w : World) (K : PySem.W.Frag) (mg : Str → Option Value) (base : Heap) (CX : CXT) (k : Nat) (x : Str) (ps : List Str) (sp : Sp) : Prop where
  ex : ∃ (f : Addr) (fd : FuncData), mg x = some (.ref f) ∧ PySem.W.keepIn K (.ref f) = true ∧ FnOk P w K mg base CX k f fd ps sp ∧ Binds K fd ps []
/-- the def stands there -/
structure Def1 (K : PySem.W.Frag) (mg : Str → Option Value) (x : Str) (st : Stmt) : Prop where
  ex : ∃ (f : Addr) (fd : FuncData), FunD K x x (defArgs st) (defBody st) (defScope st) [] [] f fd ∧ mg x = some (.ref f)
theorem Cal.mono {P : Program} {w : World} {K : PySem.W.Frag} {mg : Str → Option Value} {base : Heap} {CX : CXT} {j k : Nat} {x : Str} {ps : List Str} {sp : Sp} (c : Cal P w K mg base CX j x ps sp) (h : j ≤ k) : Cal P w K mg base CX k x ps sp := by
  obtain ⟨f, fd, h1, h2, h3, h4⟩ := c.ex
  exact ⟨f, fd, h1, h2, h3.mono h, h4⟩
section
variable {P : Program} {w : World} {K : PySem.W.Frag} {mg : Str → Option Value} {base : Heap} {x : Str} {st : Stmt} {N ps : List Str} {k : Nat} {sp : Sp}
theorem cal_of (D : Def1 K mg x st) (S : FnScope N ps (defScope st))
    (hb : ∀ (kV doc pm : Value) (an : Option Addr) (cdv ct : Value) (us : List Value), us.length = ps.length → bindArgs (PySem.W.fnOf x x (defArgs st) (defBody st) (defScope st) .none kV doc pm an cdv ct) ⟨us, []⟩ = pure (ps.zip us))
    (len : ∀ vs H Q E, sp vs H Q E → vs.length = ps.length)
    (hbody : ∀ (f : Addr) (cdv : Value) (A : Around) (outer : List Env) (s : Shared) (H : Hp) (vs : List V) (Q : VK) (E : XK), Room k (A.deeper (envOfC x (defScope st) s.heap.objs.size f cdv)) → sp vs H Q E →
      ∃ t, PSs (cxOf CX0 P w K mg base N x (defScope st) f cdv A outer s H E).nox (defBody st) t ∧ t { nx := fun _ H' => Q .non H', rt := Q } (start N vs) H) : Cal P w K mg base CX0 (k + 1) x ps sp := by
  obtain ⟨f, fd, F, g⟩ := D.ex
  refine ⟨f, fd, g, F.kp, ?_, F.bindsN hb⟩
  refine F.ok S len fun cdv A outer s H vs Q E hr hsp => ?_
  obtain ⟨t, h, q⟩ := hbody f cdv A outer s H vs Q E hr hsp
  exact ⟨t, h.nox, q⟩
end
section
variable {X : Cx} {CX : CXT} {k j : Nat} {x : Str} {ps : List Str} {sp : Sp} {E : XK} {e : Expr} {es : List Expr} {t : TA} {p pos : Pos}
theorem pe_cal (C : Cal X.prog X.w X.K X.mg X.base CX k x ps sp) (hr : Room j X.A) (hkj : k ≤ j) (hg : Gl X x) (hx : Passes CX X E) (ha : PA X (e :: es) t) (hdb : (x == ("__debug__" : Str)) = false := by decide)
    (he : starEach (e :: es) X.env = (false, eval e X.env) :: starEach es X.env := by rfl) (hpl : (backTo pos (starEach es X.env)).any (·.1) = false := by rfl) : PE X (.Call (.Name x p) (e :: es) [] pos) (tCall sp [] E t) := by
  obtain ⟨f, fd, h1, h2, h3, h4⟩ := C.ex
  exact pe_call h3 (hr.mono hkj) hg h1 h2 h4 .nil hx ha hdb he hpl
end
/-! ### ways of data -/
def dI (q : Int → Prop) : PyData → Prop := fun d => ∃ i, d = .int i ∧ q i
def dB (q : Bool → Prop) : PyData → Prop := fun d => ∃ b, d = .bool b ∧ q b
def tname : PyData → String
  | .none => "NoneType"
  | .bool _ => "bool"
  | .int _ => "int"
  | .str _ => "str"
  | .list _ => "list"
  | .tuple _ => "tuple"
  | .dict _ => "dict"
def isNonD : PyData → Bool
  | .none => true
  | _ => false
/-- all of them, from the left -/
def AllD : List (PyData → Prop) → List PyData → Prop
  | [], ds => ds = []
  | p :: ps, ds => ∃ d r, ds = d :: r ∧ p d ∧ AllD ps r
section
variable {K : PySem.W.Frag} {M : Addr → Prop} {H : Hp} {R : Rs}
theorem dqa0 {vs : List V} (h : DqAll K M H vs []) : vs = [] := by cases h; rfl
theorem dqac {vs : List V} {d : PyData} {ds : List PyData} (h : DqAll K M H vs (d :: ds)) : ∃ v r, vs = v :: r ∧ Dq K M H v d ∧ DqAll K M H r ds := by
  cases h with
  | cons a b => exact ⟨_, _, rfl, a, b⟩
theorem dqa1 {vs : List V} {d : PyData} (h : DqAll K M H vs [d]) : ∃ v, vs = [v] ∧ Dq K M H v d := by
  obtain ⟨v, r, rfl, h1, h2⟩ := dqac h
  exact ⟨v, by rw [dqa0 h2], h1⟩
theorem dqa2 {vs : List V} {d e : PyData} (h : DqAll K M H vs [d, e]) : ∃ v u, vs = [v, u] ∧ Dq K M H v d ∧ Dq K M H u e := by
  obtain ⟨v, r, rfl, h1, h2⟩ := dqac h
  obtain ⟨u, rfl, h3⟩ := dqa1 h2
  exact ⟨v, u, rfl, h1, h3⟩
theorem dqa3 {vs : List V} {d e g : PyData} (h : DqAll K M H vs [d, e, g]) : ∃ v u x, vs = [v, u, x] ∧ Dq K M H v d ∧ Dq K M H u e ∧ Dq K M H x g := by
  obtain ⟨v, r, rfl, h1, h2⟩ := dqac h
  obtain ⟨u, x, rfl, h3, h4⟩ := dqa2 h2
  exact ⟨v, u, x, rfl, h1, h3, h4⟩
theorem dqa4 {vs : List V} {d e g i : PyData} (h : DqAll K M H vs [d, e, g, i]) : ∃ v u x y, vs = [v, u, x, y] ∧ Dq K M H v d ∧ Dq K M H u e ∧ Dq K M H x g ∧ Dq K M H y i := by
  obtain ⟨v, r, rfl, h1, h2⟩ := dqac h
  obtain ⟨u, x, y, rfl, h3, h4, h5⟩ := dqa3 h2
  exact ⟨v, u, x, y, rfl, h1, h3, h4, h5⟩
theorem dqa5 {vs : List V} {d e g i j : PyData} (h : DqAll K M H vs [d, e, g, i, j]) : ∃ v u x y z, vs = [v, u, x, y, z] ∧ Dq K M H v d ∧ Dq K M H u e ∧ Dq K M H x g ∧ Dq K M H y i ∧ Dq K M H z j := by
  obtain ⟨v, r, rfl, h1, h2⟩ := dqac h
  obtain ⟨u, x, y, z, rfl, h3, h4, h5, h6⟩ := dqa4 h2
  exact ⟨v, u, x, y, z, rfl, h1, h3, h4, h5, h6⟩
theorem dq_int {v : V} {i : Int} (h : Dq K M H v (.int i)) : v = .int i := by cases h; rfl
theorem dq_bl {v : V} {b : Bool} (h : Dq K M H v (.bool b)) : v = .bl b := by cases h; rfl
theorem dq_non {v : V} (h : Dq K M H v .none) : v = .non := by cases h; rfl
theorem dq_str {v : V} {z : Str} (h : Dq K M H v (.str z)) : v = .str z := by cases h; rfl
theorem dq_tup {v : V} {ds : List PyData} (h : Dq K M H v (.tuple ds)) : ∃ a xs, v = .ref a ∧ SqT K H a xs ∧ DqAll K M H xs ds := by
  cases h with
  | tup h a => exact ⟨_, _, rfl, h, a⟩
theorem dq_lst {v : V} {ds : List PyData} (h : Dq K M H v (.list ds)) : ∃ a xs, v = .ref a ∧ SqL K H a xs ∧ ¬ M a ∧ DqAll K M H xs ds := by
  cases h with
  | lst h n a => exact ⟨_, _, rfl, h, n, a⟩
theorem dq_seq1 {v : V} {ds : List PyData} (h : DqAll K M H [v] ds) : ∃ d, ds = [d] ∧ Dq K M H v d := by
  cases h with
  | cons a b => cases b; exact ⟨_, rfl, a⟩
theorem Dq.isNon {v : V} {d : PyData} (h : Dq K M H v d) : decide (v = .non) = isNonD d := by
  cases h <;> first | rfl | exact decide_eq_false (fun z => nomatch z)
theorem Dq.ty {v : V} {d : PyData} (h : Dq K M H v d) : TyX K H v (.type (tname d)) := by
  cases h with
  | non => exact .base .non
  | bl b => exact .base (.bl b)
  | int i => exact .base (.int i)
  | str x => exact .base (.str x)
  | lst h n a =>
    rcases h with (h | ⟨o, h⟩) | h
    · exact .base (.lst h)
    · exact .base (.frz h)
    · obtain ⟨o, its, n, hk, hc, _⟩ := h
      exact .kList hk hc
  | tup h a =>
    rcases h with (h | ⟨o, h⟩) | h
    · exact .base (.tup h)
    · exact .fTuple h
    · obtain ⟨o, its, n, hk, hc, _⟩ := h
      exact .kTuple hk hc
end
/-- isinstance of data against a built-in class -/
def isT (n : String) (d : PyData) : Bool := (kitB (tname d) n).getD false
section
variable {K : PySem.W.Frag} {R : Rs} {σ : L2.St} {H H' : Hp} {n m k l : Nat} {ta tb te : TE} {t u : TT} {tl tr : TA} {P P1 P2 : Rp R} {Ps : List (Rp R)} {p q : PyData → Prop} {pi qi : Int → Prop}
theorem ev_d {v : V} {d : PyData} (h : ∀ H, Dq K R.M H v d) : Ev R n n (tC v) σ H (dP K R (· = d)) := ev_c fun H => ⟨d, h H, rfl⟩
theorem ev_dn : Ev R n n (tC .non) σ H (dP K R (· = .none)) := ev_d fun _ => .non
theorem ev_db {b : Bool} : Ev R n n (tC (.bl b)) σ H (dP K R (· = .bool b)) := ev_d fun _ => .bl b
theorem ev_di {i : Int} : Ev R n n (tC (.int i)) σ H (dP K R (· = .int i)) := ev_d fun _ => .int i
theorem ev_ds {z : Str} : Ev R n n (tC (.str z)) σ H (dP K R (· = .str z)) := ev_d fun _ => .str z
theorem ev_dvar {i : Nat} {v : V} {d : PyData} (h : σ[i]? = some (some v)) (r : Dq K R.M H v d) : Ev R n n (tVar i) σ H (dP K R (· = d)) := ev_var h ⟨d, r, rfl⟩
/-- an int's way -/
theorem ev_asI (h : Ev R n m te σ H (dP K R p)) (f : ∀ d, p d → ∃ i, d = .int i ∧ pi i) : Ev R n m te σ H (iP R pi) := h.imp fun v H' _ ⟨d, hd, hp⟩ => by
  obtain ⟨i, e, q⟩ := f d hp
  subst e
  exact ⟨i, dq_int hd, q⟩
theorem ev_ofI (h : Ev R n m te σ H (iP R pi)) : Ev R n m te σ H (dP K R (dI pi)) := h.imp fun v H' _ ⟨i, e, q⟩ => ⟨.int i, e ▸ .int i, i, rfl, q⟩
theorem ev_ofB {pb : Bool → Prop} (h : Ev R n m te σ H (bP R pb)) : Ev R n m te σ H (dP K R (dB pb)) := h.imp fun v H' _ ⟨i, e, q⟩ => ⟨.bool i, e ▸ .bl i, i, rfl, q⟩
theorem ev_isi {tn : String} (h : Ev R n m te σ H (dP K R p)) (hk : ∀ d, p d → (kitB (tname d) tn).isSome = true) : Ev R n m (tCB (rIsi K) (tCons te (tCons (tC (.ty tn)) tNil))) σ H (bP R fun b => ∃ d, p d ∧ b = isT tn d) := fun H1 x k Q z =>
  h H1 x k _ fun v H2 x2 k2 ⟨d, hd, hp⟩ => by
    obtain ⟨b, hb⟩ := Option.isSome_iff_exists.mp (hk d hp)
    refine ⟨v, .ty tn, _, _, b, rfl, .ty tn, hd.ty, kit_ty hb, z _ H2 x2 k2 ⟨b, rfl, d, hp, ?_⟩⟩
    unfold isT
    rw [hb] <;> rfl
theorem ev_isi2 {n1 n2 : String} (h : Ev R n m te σ H (dP K R p)) (hk : ∀ d, p d → (kitB (tname d) n1).isSome = true ∧ (kitB (tname d) n2).isSome = true) : Ev R n m (tCB (rIsiT K) (tCons te (tCons (tTup (tCons (tC (.ty n1)) (tCons (tC (.ty n2)) tNil))) tNil))) σ H (bP R fun b => ∃ d, p d ∧ b = (isT n1 d || isT n2 d)) := fun H1 x k Q z =>
  h H1 x k _ fun v H2 x2 k2 ⟨d, hd, hp⟩ => by
    obtain ⟨h1, h2⟩ := hk d hp
    obtain ⟨b1, e1⟩ := Option.isSome_iff_exists.mp h1
    obtain ⟨b2, e2⟩ := Option.isSome_iff_exists.mp h2
    refine ⟨(by show 2 ≤ sizeLine; decide), fun q hq => ?_⟩
    have xn : Xt R H2 (upd H2 q (.tup [V.ty n1, V.ty n2])) := .new hq
    have e : PySem.W.kitAny K (.type (tname d)) [.type n1, .type n2] = some (b1 || b2) := by
      refine kitAny_cons (kit_ty e1) (fun z => ?_) (fun z => by rw [z] <;> rfl)
      refine kitAny_cons (kit_ty e2) (fun z2 => ?_) (fun z2 => by rw [z, z2] <;> rfl)
      rw [z, z2] <;> rfl
    refine ⟨v, q, [.ty n1, .ty n2], _, _, _, rfl, upd_same, .cons (.ty n1) (.cons (.ty n2) .nil), (hd.mono xn).ty, e, z _ _ (x2.trans xn) (k2.new hq) ⟨_, rfl, d, hp, ?_⟩⟩
    unfold isT
    rw [e1, e2] <;> rfl
theorem ev_isN (h : Ev R n m te σ H (dP K R p)) : Ev R n m (tOp (fun x y H Q => y = .non ∧ Q (.bl (decide (x = .non))) H) te (tC .non)) σ H (bP R fun b => ∃ d, p d ∧ b = isNonD d) := fun H1 x k Q z =>
  h H1 x k _ fun v H2 x2 k2 ⟨d, hd, hp⟩ => ⟨rfl, z _ H2 x2 k2 ⟨_, rfl, d, hp, hd.isNon⟩⟩
theorem ev_notN (h : Ev R n m te σ H (dP K R p)) : Ev R n m (tOp (fun x y H Q => y = .non ∧ Q (.bl (!decide (x = .non))) H) te (tC .non)) σ H (bP R fun b => ∃ d, p d ∧ b = !isNonD d) := fun H1 x k Q z =>
  h H1 x k _ fun v H2 x2 k2 ⟨d, hd, hp⟩ => ⟨rfl, z _ H2 x2 k2 ⟨_, rfl, d, hp, by rw [hd.isNon]⟩⟩
/-- a call: what its promise gives -/
theorem ev_call {sp : Sp} {E : XK} (ha : EvA R n k tl σ H Ps) (hs : ∀ vs H1, Xt R H H1 → Ok R k H1 → AllR Ps vs H1 → ∀ Q : VK, (∀ v H2, Xt R H1 H2 → Ok R m H2 → P.r v H2 → Q v H2) → sp vs H1 Q E) : Ev R n m (tCall sp [] E tl) σ H P := fun H1 x k Q q =>
  ha H1 x k _ fun vs H2 x2 k2 r2 => by
    rw [List.append_nil]
    exact hs vs H2 (x.trans x2) k2 r2 Q fun v H3 x3 k3 r3 => q v H3 (x2.trans x3) k3 r3
/-- the promise of a def of data -/
def SpD (T : List (Addr × Str)) (K : PySem.W.Frag) (n : Nat) (pre : List PyData → Prop) (post : List PyData → PyData → Prop) : Sp := fun vs H Q _ => vs.length = n ∧ ∃ (R : Rs) (m : Nat) (ds : List PyData), R.T = T ∧ Ok R m H ∧ DqAll K R.M H vs ds ∧ pre ds ∧
  ∀ v H' d, Xt R H H' → Ok R m H' → Dq K R.M H' v d → post ds d → Q v H'
theorem allR_D : ∀ {ps : List (PyData → Prop)} {vs : List V}, AllR (ps.map (dP K R)) vs H → ∃ ds, DqAll K R.M H vs ds ∧ AllD ps ds ∧ vs.length = ps.length
  | [], vs, h => by
    rw [show vs = [] from h]
    exact ⟨[], .nil, rfl, rfl⟩
  | p :: ps, _, ⟨v, r, e, ⟨d, hd, hp⟩, q⟩ => by
    obtain ⟨ds, h1, h2, h3⟩ := allR_D q
    subst e
    exact ⟨d :: ds, .cons hd h1, ⟨d, ds, rfl, hp, h2⟩, congrArg Nat.succ h3⟩
theorem ev_callD {E : XK} {ar : Nat} {pre : List PyData → Prop} {post : List PyData → PyData → Prop} {ps : List (PyData → Prop)} (ha : EvA R n m tl σ H (ps.map (dP K R))) (hn : ps.length = ar) (hpre : ∀ ds, AllD ps ds → pre ds) : Ev R n m (tCall (SpD R.T K ar pre post) [] E tl) σ H (dP K R fun d => ∃ ds, AllD ps ds ∧ post ds d) :=
  ev_call ha fun vs H1 x k r Q q => by
    obtain ⟨ds, h1, h2, h3⟩ := allR_D r
    exact ⟨by rw [h3, hn], R, _, ds, rfl, k, h1, hpre ds h2, fun v H' d x2 k2 hd hp => q v H' x2 k2 ⟨d, hd, ds, h2, hp⟩⟩
/-- .. an argument that is data -/
theorem eva_d {ps : List (PyData → Prop)} (ha : Ev R n k ta σ H (dP K R p)) (hr : EvA R k m tr σ H (ps.map (dP K R))) : EvA R n m (tCons ta tr) σ H ((p :: ps).map (dP K R)) := eva_cons ha hr
/-- a tuple of data -/
theorem ev_dtup {ps : List (PyData → Prop)} (h : EvA R n m tl σ H (ps.map (dP K R))) (hl : ps.length ≤ 1000) : Ev R n m (tTup tl) σ H (dP K R fun d => ∃ ds, d = .tuple ds ∧ AllD ps ds) :=
  ev_tup h (by rw [List.length_map]; exact hl) fun a vs H1 x hp r => by
    obtain ⟨ds, h1, h2, _⟩ := allR_D r
    exact ⟨.tuple ds, .tup (.inl (.inl hp)) h1, ds, rfl, h2⟩
theorem ev_dlst {ps : List (PyData → Prop)} (h : EvA R n m tl σ H (ps.map (dP K R))) (hl : ps.length ≤ 1000) : Ev R n m (tLst tl) σ H (dP K R fun d => ∃ ds, d = .list ds ∧ AllD ps ds) :=
  ev_lst h (by rw [List.length_map]; exact hl) fun a vs H1 x hn hp r => by
    obtain ⟨ds, h1, h2, _⟩ := allR_D r
    exact ⟨.list ds, .lst (.inl (.inl hp)) hn h1, ds, rfl, h2⟩
/-- len of a list or tuple -/
theorem ev_len (h : Ev R n m te σ H (dP K R p)) (hp : ∀ d, p d → ∃ ds, d = .tuple ds ∨ d = .list ds) : Ev R n m (tCB (fun vs H Q => ∃ (a : Addr) (xs : List V), vs = [V.ref a] ∧ (SqL K H a xs ∨ SqT K H a xs) ∧ Q (.int (xs.length : Int)) H) (tCons te tNil)) σ H (iP R fun z => ∃ d ds, p d ∧ (d = .tuple ds ∨ d = .list ds) ∧ z = (ds.length : Int)) := fun H1 x k Q z =>
  h H1 x k _ fun v H2 x2 k2 ⟨d, hd, hq⟩ => by
    obtain ⟨ds, e⟩ := hp d hq
    rcases e with e | e
    · subst e
      obtain ⟨a, xs, rfl, h1, h2⟩ := dq_tup hd
      exact ⟨a, xs, rfl, .inr h1, z _ H2 x2 k2 ⟨_, rfl, _, ds, hq, .inl rfl, by rw [h2.length]⟩⟩
    · subst e
      obtain ⟨a, xs, rfl, h1, _, h2⟩ := dq_lst hd
      exact ⟨a, xs, rfl, .inl h1, z _ H2 x2 k2 ⟨_, rfl, _, ds, hq, .inr rfl, by rw [h2.length]⟩⟩
/-- == of data -/
theorem ev_eqD (ha : Ev R n k ta σ H (dP K R p)) (hb : Ev R k m tb σ H (dP K R q)) (hp : ∀ d, p d → SeqAt.shaped d = true) (hq : ∀ d, q d → SeqAt.shaped d = true) : Ev R n m (tOp (rEqD K) ta tb) σ H (bP R fun b => ∃ d e, p d ∧ q e ∧ b = PyData.eqv d e) :=
  ev_op ha hb fun x y H1 _ k ⟨d, hd, pd⟩ ⟨e, he, qe⟩ Q z => ⟨d, e, hd.dp, he.dp, hp d pd, hq e qe, z _ H1 (.refl _) k ⟨_, rfl, d, e, pd, qe, rfl⟩⟩
theorem ev_neD (ha : Ev R n k ta σ H (dP K R p)) (hb : Ev R k m tb σ H (dP K R q)) (hp : ∀ d, p d → SeqAt.shaped d = true) (hq : ∀ d, q d → SeqAt.shaped d = true) : Ev R n m (tOp (rNeD K) ta tb) σ H (bP R fun b => ∃ d e, p d ∧ q e ∧ b = !PyData.eqv d e) :=
  ev_op ha hb fun x y H1 _ k ⟨d, hd, pd⟩ ⟨e, he, qe⟩ Q z => ⟨d, e, hd.dp, he.dp, hp d pd, hq e qe, z _ H1 (.refl _) k ⟨_, rfl, d, e, pd, qe, rfl⟩⟩
/-- an item of a list or tuple, its place known -/
theorem atI_DqAll {M : Addr → Prop} {xs : List V} {ds : List PyData} {j : Nat} {d : PyData} (h : DqAll K M H xs ds) (e : ds[j]? = some d) : ∃ v, atI xs (j : Int) = some v ∧ Dq K M H v d := by
  obtain ⟨v, h1, h2⟩ := h.get e
  exact ⟨v, atI_nat h1, h2⟩
theorem ev_ix (ha : Ev R n k ta σ H (dP K R p)) (hb : Ev R k m tb σ H (iP R pi)) (hp : ∀ d i, p d → pi i → ∃ (ds : List PyData) (j : Nat) (e : PyData), (d = .tuple ds ∨ d = .list ds) ∧ i = (j : Int) ∧ ds[j]? = some e) :
    Ev R n m (tOp (rIx K) ta tb) σ H (dP K R fun e => ∃ (d : PyData) (ds : List PyData) (j : Nat), p d ∧ pi (j : Int) ∧ (d = .tuple ds ∨ d = .list ds) ∧ ds[j]? = some e) :=
  ev_op ha hb fun x y H1 _ k ⟨d, hd, pd⟩ ⟨i, ei, pii⟩ Q z => by
    obtain ⟨ds, j, e, hds, ej, he⟩ := hp d i pd pii
    subst ei ej
    rcases hds with rfl | rfl
    · obtain ⟨a, xs, rfl, h1, h2⟩ := dq_tup hd
      obtain ⟨v, h3, h4⟩ := atI_DqAll h2 he
      exact .inr (.inl ⟨a, xs, _, v, rfl, rfl, h1, h3, z _ H1 (.refl _) k ⟨e, h4, _, ds, j, pd, pii, .inl rfl, he⟩⟩)
    · obtain ⟨a, xs, rfl, h1, _, h2⟩ := dq_lst hd
      obtain ⟨v, h3, h4⟩ := atI_DqAll h2 he
      exact .inl ⟨a, xs, _, v, rfl, rfl, h1, h3, z _ H1 (.refl _) k ⟨e, h4, _, ds, j, pd, pii, .inr rfl, he⟩⟩
end
/-- len(x), x a list or a tuple -/
def rLenA (K : PySem.W.Frag) : List V → Hp → VK → Prop := fun vs H Q => ∃ (a : Addr) (xs : List V), vs = [V.ref a] ∧ (SqL K H a xs ∨ SqT K H a xs) ∧ Q (.int (xs.length : Int)) H
end WE

set_option Elab.async false
set_option linter.all false
set_option maxRecDepth 100000
set_option maxHeartbeats 4000000
/-! Comprehensions, all, tuple() and the like over data. -/
namespace WE
open PySem PySem.Spec PyProof.Rows L2 LamX
/-! ### data without lists -/
mutual
def imm : PyData → Bool
  | .list _ => false
  | .dict _ => false
  | .tuple ds => immAll ds
  | _ => true
def immAll : List PyData → Bool
  | [] => true
  | d :: ds => imm d && immAll ds
end
theorem immAll_mem : ∀ {ds : List PyData}, (∀ d ∈ ds, imm d = true) → immAll ds = true
  | [], _ => rfl
  | d :: ds, h => by
    unfold immAll
    rw [h d (List.mem_cons_self ..), immAll_mem fun e he => h e (List.mem_cons_of_mem _ he)] <;> rfl
theorem immAll_get : ∀ {ds : List PyData}, immAll ds = true → ∀ d ∈ ds, imm d = true
  | [], _, d, hd => by cases hd
  | e :: ds, h, d, hd => by
    unfold immAll at h
    obtain ⟨h1, h2⟩ := Bool.and_eq_true_iff.mp h
    rcases List.mem_cons.mp hd with z | z
    · rw [z]; exact h1
    · exact immAll_get h2 d z
/-- tuples stay -/
structure Tx (H H' : Hp) : Prop where
  tup : ∀ b xs, H b = some (.tup xs) → H' b = some (.tup xs)
  frz : ∀ b o u, H b = some (.frz o u) → H' b = some (.frz o u)
theorem Xt.tx {R : Rs} {H H' : Hp} (x : Xt R H H') : Tx H H' := ⟨x.tup, x.frz⟩
theorem Tx.trans {H H1 H2 : Hp} (a : Tx H H1) (b : Tx H1 H2) : Tx H H2 := ⟨fun c xs h => b.tup c xs (a.tup c xs h), fun c o u h => b.frz c o u (a.frz c o u h)⟩
theorem Tx.lst {H : Hp} {p : Addr} {xs : List V} {o : HO} (h : H p = some (.lst xs)) : Tx H (upd H p o) := by
  refine ⟨fun b ys e => ?_, fun b ob u e => ?_⟩
  · rw [upd_ne (ne_of e h (fun z => nomatch z))]; exact e
  · rw [upd_ne (ne_of e h (fun z => nomatch z))]; exact e
section
variable {K : PySem.W.Frag} {M M' : Addr → Prop} {H H' : Hp}
mutual
theorem Dq.imm (x : Tx H H') : ∀ {v : V} {d : PyData}, imm d = true → Dq K M H v d → Dq K M' H' v d
  | _, _, _, .non => .non
  | _, _, _, .bl b => .bl b
  | _, _, _, .int i => .int i
  | _, _, _, .str z => .str z
  | _, _, i, .lst _ _ _ => by unfold WE.imm at i; cases i
  | _, _, i, .tup h a => by
    unfold WE.imm at i
    refine .tup ?_ (DqAll.imm x i a)
    rcases h with (h | ⟨o, h⟩) | h
    · exact .inl (.inl (x.tup _ _ h))
    · exact .inl (.inr ⟨o, x.frz _ _ _ h⟩)
    · exact .inr h
theorem DqAll.imm (x : Tx H H') : ∀ {vs : List V} {ds : List PyData}, immAll ds = true → DqAll K M H vs ds → DqAll K M' H' vs ds
  | _, _, _, .nil => .nil
  | _, _, i, .cons a b => by
    unfold immAll at i
    obtain ⟨h1, h2⟩ := Bool.and_eq_true_iff.mp i
    exact .cons (Dq.imm x h1 a) (DqAll.imm x h2 b)
end
end
/-! ### a list that stands by itself -/
def lP (K : PySem.W.Frag) (R : Rs) (p : List PyData → Prop) : Rp R := ⟨fun v H => ∃ a xs ds, v = .ref a ∧ ¬ R.M a ∧ H a = some (.lst xs) ∧ DqAll K R.M H xs ds ∧ p ds, fun _ _ _ x ⟨a, xs, ds, e, n, h, d, q⟩ => ⟨a, xs, ds, e, n, x.keep a _ h n (fun _ z => nomatch z), d.mono x, q⟩⟩
theorem ev_ofL {K : PySem.W.Frag} {R : Rs} {σ : L2.St} {H : Hp} {n m : Nat} {te : TE} {p : List PyData → Prop} (h : Ev R n m te σ H (lP K R p)) : Ev R n m te σ H (dP K R fun d => ∃ ds, d = .list ds ∧ p ds) := h.imp fun v H' _ ⟨a, xs, ds, e, n, h, d, q⟩ => by
  subst e
  exact ⟨.list ds, .lst (.inl (.inl h)) n d, ds, rfl, q⟩
/-! ### comprehensions: an element a turn -/
section
variable {K : PySem.W.Frag} {R : Rs} {σ : L2.St} {H H' : Hp} {n m k l c : Nat} {ta tb te : TE} {t u : TT} {tl tr : TA} {P P1 P2 : Rp R} {p q : PyData → Prop} {pi qi : Int → Prop}
/-- the element at the i-th turn, c spent in it -/
def EvE (K : PySem.W.Frag) (R : Rs) (c : Nat) (te : TE) (σ : L2.St) (H : Hp) (pe : PyData → Prop) : Prop := ∀ q, Ev R (q + c) q te σ H (dP K R pe)
theorem lc_ev {J : It} {nn : Nat} {G : Hp → Prop} {Y : Nat → Hp → V → Hp → Prop} {vs : List Nat} {j : Nat} {pe : Nat → PyData → Prop} {H1 : Hp} (w : Walk J nn G Y) (hY : ∀ i H x H', Y i H x H' → H' = H) (hG : ∀ H', Xt R H1 H' → G H') (hn : nn ≤ 100000)
    (hw : ∀ x, wipe ((wipe σ vs).set j (some x)) vs = wipe σ vs) (hi : ∀ i e, pe i e → imm e = true)
    (he : ∀ i x H2 H3, i < nn → Xt R H1 H2 → Y i H2 x H3 → EvE K R c te ((wipe σ vs).set j (some x)) H2 (pe i))
    (k1 : Ok R (m + nn * c) H1) {D : Addr} (hD : H1 D = none) {Q : VK} (q : ∀ v H2, Xt R H1 H2 → Ok R m H2 → (lP K R fun es => es.length = nn ∧ ∀ i e, es[i]? = some e → pe i e).r v H2 → Q v H2) :
    ∃ W : Nat → Nat → Hp → Prop, (∃ m, W 0 m (upd H1 D (.lst []))) ∧ ∀ i m H, W i m H →
      (J.stop i H ∧ Q (.ref D) H) ∨ (J.go i H ∧ ∃ Nx : Hp → Prop, (∀ H', Nx H' → ∃ m', m' < m ∧ W (i + 1) m' H') ∧ ∀ x H', J.yld i H x H' → gName j x (wipe σ vs) H' fun σ2 H2 => wipe σ2 vs = wipe σ vs ∧ tYes σ2 H2 fun b H3 =>
        if b = true then te σ2 H3 fun y H4 => ∃ acc, H4 D = some (.lst acc) ∧ acc.length < sizeLine ∧ Nx (upd H4 D (.lst (acc ++ [y]))) else Nx H3) := by
  refine lc_it w (fun i H' => ∃ acc es, H' D = some (.lst acc) ∧ Xt R H1 H' ∧ Ok R (m + (nn - i) * c) H' ∧ DqAll K R.M H' acc es ∧ immAll es = true ∧ es.length = i ∧ ∀ i e, es[i]? = some e → pe i e) ⟨[], [], upd_same, .new hD, ?_, .nil, rfl, rfl, fun i e h => by simp at h⟩ (fun i H' _ ⟨_, _, _, x, _⟩ => hG H' x) (fun i x H2 H3 hi2 ⟨acc, es, e1, x1, k2, d1, i1, l1, f1⟩ y => ?_) (fun H2 ⟨acc, es, e1, x1, k2, d1, i1, l1, f1⟩ => ?_)
  · exact k1.new hD
  · have e3 := hY i H2 x H3 y
    subst e3
    refine ⟨hw x, ?_⟩
    show te ((wipe σ vs).set j (some x)) H3 _
    have hc : m + (nn - i) * c = (m + (nn - (i + 1)) * c) + c := by
      have : nn - i = (nn - (i + 1)) + 1 := by omega
      rw [this, Nat.add_mul]
      omega
    rw [hc] at k2
    refine he i x H3 H3 hi2 x1 y _ H3 (.refl _) k2 _ fun v H4 x4 k4 ⟨e, hd, hp⟩ => ?_
    have e4 : H4 D = some (.lst acc) := x4.keep D _ e1 (fun z => by
      obtain ⟨xs, h, _⟩ := k1.ml D z
      rw [hD] at h
      cases h) (fun _ z => nomatch z)
    have la : acc.length = i := by rw [d1.length, l1]
    refine ⟨acc, e4, Nat.lt_of_lt_of_le (by omega) (show 100001 ≤ sizeLine by decide), acc ++ [v], es ++ [e], upd_same, (x1.trans x4).own hD, ?_, ?_, ?_, by rw [List.length_append, l1]; rfl, fun i' e' h => ?_⟩
    · have hb : ∀ b, R.M b → upd H4 D (.lst (acc ++ [v])) b = H4 b := fun b hm => upd_ne fun z => by
        obtain ⟨xs, h, _⟩ := k1.ml b hm
        rw [z, hD] at h
        cases h
      refine ⟨fun p hp => ?_, fun b hm => by rw [hb b hm]; exact k4.ml b hm, R.loc _ _ _ hb k4.g⟩
      obtain ⟨ps, t1, t2, t3⟩ := k4.tab p hp
      refine ⟨ps, by rw [upd_ne (ne_of t1 e4 (fun z => nomatch z))]; exact t1, t2, fun pos cv hcv => ?_⟩
      obtain ⟨c', z1, z2⟩ := t3 pos cv hcv
      exact ⟨c', z1, by rw [upd_ne (ne_of z2 e4 (fun z => by unfold CodeO at z; cases z))]; exact z2⟩
    · have t : Tx H4 (upd H4 D (.lst (acc ++ [v]))) := .lst e4
      exact ((d1.imm (x4.tx.trans t) i1).append (.cons (hd.imm t (hi i e hp)) .nil))
    · refine immAll_mem fun d hd2 => ?_
      rcases List.mem_append.mp hd2 with z | z
      · exact immAll_get i1 d z
      · rw [List.mem_singleton.mp z]
        exact hi i e hp
    · by_cases hlt : i' < es.length
      · rw [List.getElem?_append_left hlt] at h
        exact f1 i' e' h
      · rw [List.getElem?_append_right (by omega)] at h
        have e0 : i' - es.length = 0 := by
          by_cases z : i' - es.length = 0
          · exact z
          · rw [List.getElem?_eq_none (by simp; omega)] at h
            cases h
        rw [e0] at h
        have e5 : e = e' := Option.some.inj h
        have e6 : i' = i := by omega
        rw [← e5, e6]
        exact hp
  · refine q _ H2 x1 (k2.mono (by omega)) ⟨D, acc, es, rfl, fun z => ?_, e1, d1, l1, f1⟩
    obtain ⟨xs, h, _⟩ := k1.ml D z
    rw [hD] at h
    cases h
/-- [te for x in a tuple of data] -/
theorem ev_lcTL {j : Nat} {vs : List Nat} {pe : PyData → PyData → Prop} (h : Ev R n (m + k * c) ta σ H (dP K R p)) (hp : ∀ d, p d → ∃ ds, d = .tuple ds ∧ ds.length ≤ k ∧ ds.length ≤ 100000)
    (hw : ∀ x, wipe ((wipe σ vs).set j (some x)) vs = wipe σ vs) (hi : ∀ d e, pe d e → imm e = true)
    (he : ∀ (ds : List PyData) (i : Nat) (d : PyData) (v : V) (H2 : Hp), p (.tuple ds) → ds[i]? = some d → Xt R H H2 → Dq K R.M H2 v d → EvE K R c te ((wipe σ vs).set j (some v)) H2 (pe d)) :
    Ev R n m (tLc (iTup K ta) (gName j) tYes te vs) σ H (lP K R fun es => ∃ ds : List PyData, p (.tuple ds) ∧ es.length = ds.length ∧ ∀ (i : Nat) (d e : PyData), ds[i]? = some d → es[i]? = some e → pe d e) := fun H1 x z Q q =>
  h H1 x z _ fun v H2 x2 k2 ⟨d, hd, hpd⟩ => by
    obtain ⟨ds, rfl, l1, l2⟩ := hp d hpd
    obtain ⟨a, xs, rfl, hT, hA⟩ := dq_tup hd
    have lx := hA.length
    refine ⟨a, rfl, ⟨xs, hT⟩, fun D hD => lc_ev (K := K) (pe := fun i e => ∃ d, ds[i]? = some d ∧ pe d e) (walk_tup (K := K) (a := a) (xs := xs)) (fun i H x H' y => y.1) (fun H' x' => x'.seqT hT) (by omega) hw (fun i e ⟨d, _, hh⟩ => hi d e hh) (fun i y H3 H4 hlt x3 yy => ?_) (k2.mono (Nat.add_le_add_left (Nat.mul_le_mul_right c (by rw [lx]; exact l1)) m)) hD fun v H3 x3 k3 ⟨a1, xs1, es, g0, gn, gh, gd, g2, g3⟩ => q v H3 (x2.trans x3) k3 ⟨a1, xs1, es, g0, gn, gh, gd, ds, hpd, by rw [g2, lx], fun i d e q1 q2 => ?_⟩⟩
    · obtain ⟨d, q1, q2⟩ := (hA.mono x3).getV yy.2
      have := he ds i d y H3 hpd q1 ((x.trans x2).trans x3) q2
      exact fun q => (this q).imp fun v H' _ ⟨e, r1, r2⟩ => ⟨e, r1, d, q1, r2⟩
    · obtain ⟨d', q3, q4⟩ := g3 i e q2
      rw [q1] at q3
      cases q3
      exact q4
theorem ev_lcT {j : Nat} {vs : List Nat} {pe : PyData → PyData → Prop} (h : Ev R n (m + k * c) ta σ H (dP K R p)) (hp : ∀ d, p d → ∃ ds, d = .tuple ds ∧ ds.length ≤ k ∧ ds.length ≤ 100000)
    (hw : ∀ x, wipe ((wipe σ vs).set j (some x)) vs = wipe σ vs) (hi : ∀ d e, pe d e → imm e = true)
    (he : ∀ (ds : List PyData) (i : Nat) (d : PyData) (v : V) (H2 : Hp), p (.tuple ds) → ds[i]? = some d → Xt R H H2 → Dq K R.M H2 v d → EvE K R c te ((wipe σ vs).set j (some v)) H2 (pe d)) :
    Ev R n m (tLc (iTup K ta) (gName j) tYes te vs) σ H (dP K R fun r => ∃ (ds es : List PyData), p (.tuple ds) ∧ r = .list es ∧ es.length = ds.length ∧ ∀ (i : Nat) (d e : PyData), ds[i]? = some d → es[i]? = some e → pe d e) :=
  (ev_ofL (ev_lcTL h hp hw hi he)).imp fun v H' _ ⟨r, hr, es, e, ds, q⟩ => ⟨r, hr, ds, es, q.1, e, q.2⟩
/-- .. in a list of data -/
theorem ev_lcLL {j : Nat} {vs : List Nat} {pe : PyData → PyData → Prop} (h : Ev R n (m + k * c) ta σ H (dP K R p)) (hp : ∀ d, p d → ∃ ds, d = .list ds ∧ ds.length ≤ k ∧ ds.length ≤ 100000)
    (hw : ∀ x, wipe ((wipe σ vs).set j (some x)) vs = wipe σ vs) (hi : ∀ d e, pe d e → imm e = true)
    (he : ∀ (ds : List PyData) (i : Nat) (d : PyData) (v : V) (H2 : Hp), p (.list ds) → ds[i]? = some d → Xt R H H2 → Dq K R.M H2 v d → EvE K R c te ((wipe σ vs).set j (some v)) H2 (pe d)) :
    Ev R n m (tLc (iList K ta) (gName j) tYes te vs) σ H (lP K R fun es => ∃ ds : List PyData, p (.list ds) ∧ es.length = ds.length ∧ ∀ (i : Nat) (d e : PyData), ds[i]? = some d → es[i]? = some e → pe d e) := fun H1 x z Q q =>
  h H1 x z _ fun v H2 x2 k2 ⟨d, hd, hpd⟩ => by
    obtain ⟨ds, rfl, l1, l2⟩ := hp d hpd
    obtain ⟨a, xs, rfl, hT, hn, hA⟩ := dq_lst hd
    have lx := hA.length
    refine ⟨a, rfl, ⟨xs, hT⟩, fun D hD => lc_ev (K := K) (pe := fun i e => ∃ d, ds[i]? = some d ∧ pe d e) (walk_list (K := K) (a := a) (xs := xs)) (fun i H x H' y => y.1) (fun H' x' => x'.seqL hT hn) (by omega) hw (fun i e ⟨d, _, hh⟩ => hi d e hh) (fun i y H3 H4 hlt x3 yy => ?_) (k2.mono (Nat.add_le_add_left (Nat.mul_le_mul_right c (by rw [lx]; exact l1)) m)) hD fun v H3 x3 k3 ⟨a1, xs1, es, g0, gn, gh, gd, g2, g3⟩ => q v H3 (x2.trans x3) k3 ⟨a1, xs1, es, g0, gn, gh, gd, ds, hpd, by rw [g2, lx], fun i d e q1 q2 => ?_⟩⟩
    · obtain ⟨d, q1, q2⟩ := (hA.mono x3).getV yy.2
      have := he ds i d y H3 hpd q1 ((x.trans x2).trans x3) q2
      exact fun q => (this q).imp fun v H' _ ⟨e, r1, r2⟩ => ⟨e, r1, d, q1, r2⟩
    · obtain ⟨d', q3, q4⟩ := g3 i e q2
      rw [q1] at q3
      cases q3
      exact q4
/-- [te for x in range(n)] -/
theorem ev_lcRL {j : Nat} {vs : List Nat} {pe : PyData → Prop} {ta : TE} (h : Ev R n (m + k * c) ta σ H (iP R pi)) (hp : ∀ i, pi i → 0 ≤ i ∧ i ≤ 100000 ∧ i ≤ (k : Int))
    (hw : ∀ x, wipe ((wipe σ vs).set j (some x)) vs = wipe σ vs) (hi : ∀ e, pe e → imm e = true)
    (he : ∀ (i : Nat) H2, Xt R H H2 → EvE K R c te ((wipe σ vs).set j (some (.int (i : Int)))) H2 pe) :
    Ev R n m (tLc (iRng1 (tCons ta tNil)) (gName j) tYes te vs) σ H (lP K R fun es => ∃ i : Int, pi i ∧ (es.length : Int) = i ∧ ∀ e ∈ es, pe e) := fun H1 x z Q q =>
  h H1 x z _ fun v H2 x2 k2 ⟨i, ei, hpi⟩ => by
    obtain ⟨l0, l1, l2⟩ := hp i hpi
    subst ei
    refine ⟨i, rfl, by omega, by omega, fun D hD => lc_ev (K := K) (pe := fun _ e => pe e) (walk_range (lo := 0) (n := i.toNat)) (fun i H x H' y => y.1) (fun H' x' => trivial) (by omega) hw (fun i e hh => hi e hh) (fun i' y H3 H4 hlt x3 yy => ?_) (k2.mono (Nat.add_le_add_left (Nat.mul_le_mul_right c (by omega)) m)) hD fun v H3 x3 k3 ⟨a1, xs1, es, g0, gn, gh, gd, g2, g3⟩ => q v H3 (x2.trans x3) k3 ⟨a1, xs1, es, g0, gn, gh, gd, i, hpi, by rw [g2]; omega, fun e he' => ?_⟩⟩
    · obtain ⟨_, q2⟩ := yy
      subst q2
      have e0 : (0 : Int) + ((i' : Nat) : Int) = ((i' : Nat) : Int) := Int.zero_add _
      show EvE K R c te (List.set (wipe σ vs) j (some (V.int ((0 : Int) + ((i' : Nat) : Int))))) H3 pe
      rw [e0]
      exact he i' H3 ((x.trans x2).trans x3)
    · obtain ⟨i', q1⟩ := List.mem_iff_getElem?.mp he'
      exact g3 i' e q1
theorem ev_lcR {j : Nat} {vs : List Nat} {pe : PyData → Prop} {ta : TE} (h : Ev R n (m + k * c) ta σ H (iP R pi)) (hp : ∀ i, pi i → 0 ≤ i ∧ i ≤ 100000 ∧ i ≤ (k : Int))
    (hw : ∀ x, wipe ((wipe σ vs).set j (some x)) vs = wipe σ vs) (hi : ∀ e, pe e → imm e = true)
    (he : ∀ (i : Nat) H2, Xt R H H2 → EvE K R c te ((wipe σ vs).set j (some (.int (i : Int)))) H2 pe) :
    Ev R n m (tLc (iRng1 (tCons ta tNil)) (gName j) tYes te vs) σ H (dP K R fun r => ∃ (i : Int) (es : List PyData), pi i ∧ r = .list es ∧ (es.length : Int) = i ∧ ∀ e ∈ es, pe e) :=
  (ev_ofL (ev_lcRL h hp hw hi he)).imp fun v H' _ ⟨r, hr, es, e, i, q⟩ => ⟨r, hr, i, es, q.1, e, q.2⟩
/-- slices and sums of lists -/
def cutD (ds : List PyData) (lo hi : Option Int) : List PyData := (ds.drop (HT.sIx ds.length 0 lo)).take (HT.sIx ds.length ds.length hi - HT.sIx ds.length 0 lo)
theorem cut_data {M : Addr → Prop} {xs : List V} {ds : List PyData} {lo hi : Option Int} (h : DqAll K M H xs ds) : DqAll K M H (cutV xs lo hi) (cutD ds lo hi) := by
  unfold cutV cutD
  rw [h.length]
  exact (h.drop _).take _
theorem ev_catL {pl ql : List PyData → Prop} (ha : Ev R n k ta σ H (lP K R pl)) (hb : Ev R k m tb σ H (lP K R ql)) (hp : ∀ ds, pl ds → ds.length ≤ 100000) (hq : ∀ ds, ql ds → ds.length ≤ 100000) : Ev R n m (tOp rCat ta tb) σ H (lP K R fun es => ∃ ds fs, pl ds ∧ ql fs ∧ es = ds ++ fs) :=
  ev_op ha hb fun x y H1 _ k ⟨a, xs, ds, e, na, h, d, q⟩ ⟨b, ys, fs, e2, nb, h2, d2, q2⟩ Q z => by
    subst e e2
    refine ⟨a, b, xs, ys, rfl, rfl, h, h2, ?_, fun p hp2 => ?_⟩
    · have := hp ds q
      have := hq fs q2
      rw [d.length, d2.length]
      exact Nat.le_trans (by omega) (show 200000 ≤ sizeLine by decide)
    · have xn : Xt R H1 (upd H1 p (.lst (xs ++ ys))) := .new hp2
      exact z _ _ xn (k.new hp2) ⟨p, _, _, rfl, k.fresh hp2, upd_same, (d.append d2).mono xn, ds, fs, q, q2, rfl⟩
/-- tuple(x), x a list or a tuple of data -/
theorem ev_tupleOf (h : Ev R n m te σ H (dP K R p)) (hp : ∀ d, p d → ∃ ds, d = .tuple ds ∨ d = .list ds) :
    Ev R n m (tCB (fun xs H Q => ∃ p ys, xs = [.ref p] ∧ ((SqL K H p ys ∧ ∀ l, H l = none → Q (.ref l) (upd H l (.tup ys))) ∨ (SqT K H p ys ∧ Q (.ref p) H))) (tCons te tNil)) σ H (dP K R fun r => ∃ ds, (p (.tuple ds) ∨ p (.list ds)) ∧ r = .tuple ds) := fun H1 x k Q z =>
  h H1 x k _ fun v H2 x2 k2 ⟨d, hd, hq⟩ => by
    obtain ⟨ds, e⟩ := hp d hq
    rcases e with e | e
    · subst e
      obtain ⟨a, xs, rfl, h1, h2⟩ := dq_tup hd
      exact ⟨a, xs, rfl, .inr ⟨h1, z _ H2 x2 k2 ⟨_, hd, ds, .inl hq, rfl⟩⟩⟩
    · subst e
      obtain ⟨a, xs, rfl, h1, _, h2⟩ := dq_lst hd
      refine ⟨a, xs, rfl, .inl ⟨h1, fun l hl => ?_⟩⟩
      have xn : Xt R H2 (upd H2 l (.tup xs)) := .new hl
      exact z _ _ (x2.trans xn) (k2.new hl) ⟨_, .tup (.inl (.inl upd_same)) (h2.mono xn), ds, .inr hq, rfl⟩
/-- all(x), x a list of bools -/
theorem dq_bools : ∀ {xs : List V} {es : List PyData}, DqAll K R.M H xs es → (∀ e ∈ es, ∃ b, e = .bool b) → ∃ (bs : List Bool), xs = bs.map V.bl ∧ es = bs.map PyData.bool
  | _, _, .nil, _ => ⟨[], rfl, rfl⟩
  | _, _, .cons a b, h => by
    obtain ⟨b1, e1⟩ := h _ (List.mem_cons_self ..)
    subst e1
    obtain ⟨bs, e2, e3⟩ := dq_bools b fun e he => h e (List.mem_cons_of_mem _ he)
    exact ⟨b1 :: bs, by rw [dq_bl a, e2]; rfl, by rw [e3]; rfl⟩
theorem ev_all (h : Ev R n m te σ H (dP K R p)) (hp : ∀ d, p d → ∃ es, d = .list es ∧ ∀ e ∈ es, ∃ b, e = .bool b) : Ev R n m (tCB (rAll K) (tCons te tNil)) σ H (bP R fun b => ∃ (bs : List Bool), p (.list (bs.map PyData.bool)) ∧ b = bs.all id) := fun H1 x k Q z =>
  h H1 x k _ fun v H2 x2 k2 ⟨d, hd, hq⟩ => by
    obtain ⟨es, rfl, hb⟩ := hp d hq
    obtain ⟨a, xs, rfl, h1, _, h2⟩ := dq_lst hd
    obtain ⟨bs, rfl, rfl⟩ := dq_bools h2 hb
    exact ⟨a, bs, rfl, h1, z _ H2 x2 k2 ⟨_, rfl, bs, hq, rfl⟩⟩
end
section
variable {K : PySem.W.Frag} {R : Rs} {σ : L2.St} {H H' : Hp} {n m k l c : Nat} {ta tb te : TE} {p q : PyData → Prop} {pi qi : Int → Prop} {D : Ends} {tz tu : TS} {g : TG}
/-- == of ints -/
theorem ev_eqI (ha : Ev R n k ta σ H (iP R pi)) (hb : Ev R k m tb σ H (iP R qi)) : Ev R n m (tOp rEq ta tb) σ H (bP R fun b => ∃ i j, pi i ∧ qi j ∧ b = decide (i = j)) :=
  ev_op ha hb fun x y H1 _ k ⟨i, ei, pi⟩ ⟨j, ej, pj⟩ Q q => by
    subst ei ej
    refine ⟨rfl, q _ H1 (.refl _) k ⟨_, rfl, i, j, pi, pj, ?_⟩⟩
    by_cases e : i = j
    · rw [decide_eq_true e, decide_eq_true (by rw [e])]
    · rw [decide_eq_false e, decide_eq_false fun z => e (by injection z)]
theorem ev_neI (ha : Ev R n k ta σ H (iP R pi)) (hb : Ev R k m tb σ H (iP R qi)) : Ev R n m (tOp rNe ta tb) σ H (bP R fun b => ∃ i j, pi i ∧ qi j ∧ b = !decide (i = j)) :=
  ev_op ha hb fun x y H1 _ k ⟨i, ei, pi⟩ ⟨j, ej, pj⟩ Q q => by
    subst ei ej
    refine ⟨rfl, q _ H1 (.refl _) k ⟨_, rfl, i, j, pi, pj, ?_⟩⟩
    by_cases e : i = j
    · rw [decide_eq_true e, decide_eq_true (by rw [e])]
    · rw [decide_eq_false e, decide_eq_false fun z => e (by injection z)]
/-- for row, item in enumerate(x), x a list or a tuple of data -/
theorem q_enumA (k : Ok R n H) (h : Ev R n m ta σ H (dP K R p)) (hp : ∀ d, p d → ∃ ds, d = .tuple ds ∨ d = .list ds)
    (z : ∀ (ds : List PyData) (H1 : Hp), (p (.tuple ds) ∨ p (.list ds)) → Xt R H H1 → Ok R m H1 → ∃ Pv : Nat → L2.St → Hp → Prop, Pv 0 σ H1 ∧ (∀ i σ' H', Pv i σ' H' → Xt R H1 H') ∧
      (∀ (i : Nat) (d : PyData) (v : V) (σ' : L2.St) (H' : Hp) (U : Addr), ds[i]? = some d → Pv i σ' H' → H' U = none → Dq K R.M H' v d → g (.ref U) σ' (upd H' U (.tup [.int (i : Nat), v])) fun σ2 H2 => tu { D with nx := Pv (i + 1), ct := Pv (i + 1), bk := tz D } σ2 H2) ∧
      ∀ σ' H', Pv ds.length σ' H' → tz D σ' H') : tSeq (tFor (WEnum.iEnumA K (tCons ta tNil)) g tu) tz D σ H := by
  refine h H (.refl _) k _ fun v H1 x1 k1 ⟨d, hd, hq⟩ => ?_
  obtain ⟨ds, e⟩ := hp d hq
  have main : ∀ {J : It} {xs : List V} {G : Hp → Prop}, Walk J xs.length G (YPair (fun i => some (.int (i : Nat))) (fun i => xs[i]?)) → (∀ H', Xt R H1 H' → G H') → DqAll K R.M H1 xs ds → (p (.tuple ds) ∨ p (.list ds)) →
      ∃ W : Nat → Nat → L2.St → Hp → Prop, (∃ m, W 0 m σ H1) ∧ ∀ i m σ H, W i m σ H →
      (J.stop i H ∧ tz D σ H) ∨ (J.go i H ∧ ∃ N : L2.St → Hp → Prop, (∀ σ' H', N σ' H' → ∃ m', m' < m ∧ W (i + 1) m' σ' H') ∧ ∀ x H', J.yld i H x H' → g x σ H' fun σ2 H2 => tu { D with nx := N, ct := N, bk := tz D } σ2 H2) := by
    intro J xs G w hG hA hpp
    obtain ⟨Pv, z0, z1, z2, z3⟩ := z ds H1 hpp x1 k1
    refine for_it (D := { D with nx := tz D }) w Pv z0 (fun i σ' H' _ q => hG H' (z1 i σ' H' q)) (fun i x σ' H' H'' hi q y => ?_) (fun σ' H' q => z3 σ' H' (by rw [← hA.length]; exact q))
    obtain ⟨U, a, b, rfl, hU, rfl, e1, e2⟩ := y
    cases e1
    obtain ⟨d', q1, q2⟩ := (hA.mono (z1 i σ' H' q)).getV e2
    exact z2 i d' b σ' H' U q1 q hU q2
  rcases e with e | e
  · subst e
    obtain ⟨a, xs, rfl, h1, h2⟩ := dq_tup hd
    exact ⟨a, xs, rfl, .inr ⟨h1, main (WEnum.walk_enumT (K := K) (a := a) (xs := xs)) (fun H' x => x.seqT h1) h2 (.inl hq)⟩⟩
  · subst e
    obtain ⟨a, xs, rfl, h1, hn, h2⟩ := dq_lst hd
    exact ⟨a, xs, rfl, .inl ⟨h1, main (walk_enum (K := K) (a := a) (xs := xs)) (fun H' x => x.seqL h1 hn) h2 (.inr hq)⟩⟩
end
end WE

set_option Elab.async false
set_option linter.all false
set_option maxRecDepth 100000
set_option maxHeartbeats 4000000
/-! tuple * 1, powers of great numbers. -/
namespace WE
open PySem PySem.Spec PyProof.Rows L2
/-- t * 1, t not empty, is t itself -/
theorem meets_mul_one (l : Addr) (items : Array Value) (n : Nat) (dd : Option Addr) (sl : Array (Option Value)) (u : Tok) :
    Meets (Builtin.«tuple.__mul__» ⟨[.ref l, .int 1 u], []⟩) (fun _ R s => s.heap.get? l = some { cls := .type "tuple", dict := dd, data := .seq items n, slots := sl } ∧ R (.ok (.ret (Value.ref l))) s) :=
  .of_wp fun prog w A R s h => by
    obtain ⟨hp, g, d, tk, os⟩ := s
    obtain ⟨hl, h⟩ := h
    have f1 := AutoSeq1.idx_int
    have c0 : (decide ((1 : Int) < -(2 ^ 63)) || decide ((1 : Int) ≥ 2 ^ 63)) = false := by decide
    have c1 : (items.isEmpty || (1 : Int) == 1) = true := by simp
    wp_walk using wpAny_loadPart' hl
    repeat (first
      | (refine wpAny_ite_false (decide_eq_false (by rw [c0]; exact Bool.false_ne_true)) ?_; wp_walk using wpAny_loadPart' hl)
      | (refine wpAny_ite_true (decide_eq_true c1) ?_; wp_walk using wpAny_loadPart' hl))
    exact ⟨_, rfl, h⟩
def rRepOne (K : PySem.W.Frag) : R2 := fun x y H Q => ∃ l xs, x = .ref l ∧ y = .int 1 ∧ SqT K H l xs ∧ Q (.ref l) H
/-- t * k, k from 1 on -/
def rRepA (K : PySem.W.Frag) : R2 := fun x y H Q => rRepT K x y H Q ∨ rRepOne K x y H Q
section
variable {X : Cx}
theorem op_rep1 : OpR X (binaryOp .Mult) (rRepOne X.K) := by
  intro pins s σ H x y v u Q I rx ry h
  obtain ⟨l, xs, rfl, rfl, hT, q⟩ := h
  cases rx
  obtain ⟨t, rfl⟩ := ry
  obtain ⟨its, r, ⟨⟨cls, dd, data, sl⟩, ho, hc, n, hd⟩, hs⟩ := I.tuple hT
  simp only at hc hd
  subst hc hd
  exact wpAny_binaryOp_repeat_ref (T := "tuple") (U := "int") (by decide) ⟨_, ho, rfl⟩ (fun s' => typeIs_int s' 1 t) noFill_tuple_mul F.fills_int_mul F.slot_int_rmul repeat_tuple F.slot_int_index.lookup
    (call_meets F.slot_int_rmul (typeIs_int s 1 t) F.entry_int_rmul (F.args_int_rmul_2 _ _) (int_rmul_tuple 1 t l its.toArray n dd sl)
      ⟨ho, rfl, ⟨_, ho, rfl⟩, call_meets F.slot_tuple_mul ⟨_, ho, rfl⟩ F.entry_tuple_mul (F.args_tuple_mul_2 _ _) (meets_mul_one l its.toArray n dd sl t) ⟨ho, .ref l, H, I, rfl, q⟩⟩)
theorem op_repA : OpR X (binaryOp .Mult) (rRepA X.K) := by
  intro pins s σ H x y v u Q I rx ry h
  rcases h with h | h
  · exact op_repT pins s σ H x y v u Q I rx ry h
  · exact op_rep1 pins s σ H x y v u Q I rx ry h
def CPowW (i j : Int) : Prop := 0 ≤ j ∧ (Builtin.Int.intBits i : Int) * j ≤ 2 ^ 27
theorem op_powW : OpR X (binaryOp .Pow) (rI CPowW fun i j => .int (i ^ j.toNat)) := by
  intro pins s σ H x y v u Q I rx ry h
  obtain ⟨i, j, rfl, rfl, hc, q⟩ := h
  obtain ⟨t, rfl⟩ := rx
  obtain ⟨t2, rfl⟩ := ry
  exact pow_int hc.1 hc.2 ⟨.int _, H, I.tok _, ⟨_, rfl⟩, q⟩
end
theorem DqAll.flat {K : PySem.W.Frag} {M : Addr → Prop} {H : Hp} {xs : List V} {ds : List PyData} (h : DqAll K M H xs ds) : ∀ n : Nat, DqAll K M H (List.replicate n xs).flatten (List.replicate n ds).flatten
  | 0 => .nil
  | n + 1 => by
    rw [List.replicate_succ, List.flatten_cons, List.replicate_succ, List.flatten_cons]
    exact h.append (h.flat n)
section
variable {K : PySem.W.Frag} {R : Rs} {σ : L2.St} {H : Hp} {n m k : Nat} {ta tb te : TE} {p q : PyData → Prop} {pi qi : Int → Prop}
/-- a tuple of data, repeated -/
theorem ev_repA (ha : Ev R n k ta σ H (dP K R p)) (hb : Ev R k m tb σ H (iP R pi)) (hp : ∀ d, p d → ∃ ds, d = .tuple ds ∧ ds ≠ [] ∧ ds.length ≤ 1000) (hi : ∀ i, pi i → 1 ≤ i ∧ i ≤ 1000) :
    Ev R n m (tOp (rRepA K) ta tb) σ H (dP K R fun d => ∃ ds i, p (.tuple ds) ∧ pi i ∧ d = .tuple (List.replicate i.toNat ds).flatten) :=
  ev_op ha hb fun x y H1 _ k ⟨d, hd, pd⟩ ⟨i, ei, pii⟩ Q z => by
    obtain ⟨ds, rfl, hne, hl⟩ := hp d pd
    obtain ⟨h1, h2⟩ := hi i pii
    subst ei
    obtain ⟨a, xs, rfl, hT, hA⟩ := dq_tup hd
    by_cases e : i = 1
    · subst e
      refine .inr ⟨a, xs, rfl, rfl, hT, z _ H1 (.refl _) k ⟨_, hd, ds, 1, pd, pii, ?_⟩⟩
      show PyData.tuple ds = .tuple (List.replicate 1 ds).flatten
      simp
    · refine .inl ⟨a, i, xs, rfl, rfl, hT, fun e2 => ?_, by omega, h2, by rw [hA.length]; exact hl, fun l hl2 => ?_⟩
      · have := hA.length
        rw [e2] at this
        exact hne (List.eq_nil_of_length_eq_zero this.symm)
      · have xn : Xt R H1 (upd H1 l (.tup (List.replicate i.toNat xs).flatten)) := .new hl2
        exact z _ _ xn (k.new hl2) ⟨_, .tup (.inl (.inl upd_same)) ((hA.flat _).mono xn), ds, i, pd, pii, rfl⟩
/-- tuple(range(n)) -/
theorem rg_data {M : Addr → Prop} (a : Int) : ∀ n : Nat, DqAll K M H ((List.range n).map fun i => V.int (a + (i : Nat))) ((List.range n).map fun i => PyData.int (a + (i : Nat))) := fun n => by
  generalize List.range n = l
  induction l with
  | nil => exact .nil
  | cons x r ih => exact .cons (.int _) ih
theorem ev_trg1 (h : Ev R n m te σ H (iP R pi)) (hp : ∀ i, pi i → 0 ≤ i ∧ i ≤ 1000) : Ev R n m (tTupRg (tRg1 te)) σ H (dP K R fun d => ∃ i, pi i ∧ d = .tuple ((List.range i.toNat).map fun j : Nat => PyData.int (j : Int))) := fun H1 x k Q z =>
  h H1 x k _ fun v H2 x2 k2 ⟨i, e, hi⟩ => by
    obtain ⟨h1, h2⟩ := hp i hi
    refine ⟨i, e, .of_le (by omega) (by omega) (by omega) (by omega), fun l hl => ?_⟩
    have xn : Xt R H2 (upd H2 l (.tup (rgV 0 i))) := .new hl
    refine z _ _ (x2.trans xn) (k2.new hl) ⟨_, .tup (.inl (.inl upd_same)) (rg_data 0 (i - 0).toNat), i, hi, ?_⟩
    rw [Int.sub_zero]
    congr 1
    exact List.map_congr_left fun j _ => by rw [Int.zero_add]
theorem ev_trg2 (ha : Ev R n k ta σ H (iP R pi)) (hb : Ev R k m tb σ H (iP R qi)) (hp : ∀ i j, pi i → qi j → 0 ≤ i ∧ i ≤ 1000 ∧ 0 ≤ j ∧ j ≤ 1000) : Ev R n m (tTupRg (tRg2 ta tb)) σ H (dP K R fun d => ∃ i j, pi i ∧ qi j ∧ d = .tuple ((List.range (j - i).toNat).map fun l : Nat => PyData.int (i + (l : Int)))) := fun H1 x k Q z =>
  ha H1 x k _ fun v H2 x2 k2 ⟨i, e, hi⟩ => hb H2 (x.trans x2) k2 _ fun u H3 x3 k3 ⟨j, e2, hj⟩ => by
    obtain ⟨h1, h2, h3, h4⟩ := hp i j hi hj
    refine ⟨i, j, e, e2, .of_le (by omega) (by omega) (by omega) (by omega), fun l hl => ?_⟩
    have xn : Xt R H3 (upd H3 l (.tup (rgV i j))) := .new hl
    exact z _ _ (x2.trans (x3.trans xn)) (k3.new hl) ⟨_, .tup (.inl (.inl upd_same)) (rg_data i (j - i).toNat), i, j, hi, hj, rfl⟩
/-- int(n), n an int or a bool -/
theorem ev_int1 (h : Ev R n m te σ H (iP R pi)) : Ev R n m (tCB (fun xs H Q => (∃ i, xs = [.int i] ∧ Q (.int i) H) ∨ ∃ k, xs = [.bl k] ∧ Q (.int (if k then 1 else 0)) H) (tCons te tNil)) σ H (iP R pi) := fun H1 x k Q z =>
  h H1 x k _ fun v H2 x2 k2 ⟨i, e, hi⟩ => .inl ⟨i, by rw [e], z _ H2 x2 k2 ⟨i, rfl, hi⟩⟩
theorem ev_intB {pb : Bool → Prop} (h : Ev R n m te σ H (bP R pb)) : Ev R n m (tCB (fun xs H Q => (∃ i, xs = [.int i] ∧ Q (.int i) H) ∨ ∃ k, xs = [.bl k] ∧ Q (.int (if k then 1 else 0)) H) (tCons te tNil)) σ H (iP R fun i => ∃ b, pb b ∧ i = if b then 1 else 0) := fun H1 x k Q z =>
  h H1 x k _ fun v H2 x2 k2 ⟨b, e, hb⟩ => .inr ⟨b, by rw [e], z _ H2 x2 k2 ⟨_, rfl, b, hb, rfl⟩⟩
theorem ev_max2 (ha : Ev R n k ta σ H (iP R pi)) (hb : Ev R k m tb σ H (iP R qi)) : Ev R n m (tCB (fun xs H Q => ∃ i j, xs = [.int i, .int j] ∧ Q (.int (if j > i then j else i)) H) (tCons ta (tCons tb tNil))) σ H (iP R fun z => ∃ i j, pi i ∧ qi j ∧ z = if j > i then j else i) := fun H1 x k Q z =>
  ha H1 x k _ fun v H2 x2 k2 ⟨i, e, hi⟩ => hb H2 (x.trans x2) k2 _ fun u H3 x3 k3 ⟨j, e2, hj⟩ => ⟨i, j, by rw [e, e2], z _ H3 (x2.trans x3) k3 ⟨_, rfl, i, j, hi, hj, rfl⟩⟩
end
/-! ### a purse: three numbers in a list that draws change -/
/-- n draws are left -/
def PurseAt (a : Addr) (n : Nat) (H : Hp) : Prop := ∃ x y z : Int, H a = some (.lst [.int x, .int y, .int z]) ∧ 0 ≤ x ∧ 0 ≤ y ∧ y < 2147483647 ∧ 0 ≤ z ∧ z + (n : Int) ≤ 1000000000000
def RP (T : List (Addr × Str)) (a : Addr) : Rs where
  T := T
  M := (· = a)
  G := PurseAt a
  mono := fun m n H h ⟨x, y, z, h1, h2, h3, h4, h5, h6⟩ => ⟨x, y, z, h1, h2, h3, h4, h5, by omega⟩
  loc := fun m H H' h ⟨x, y, z, h1, q⟩ => ⟨x, y, z, by rw [h a rfl]; exact h1, q⟩
end WE

set_option Elab.async false
set_option linter.all false
set_option maxRecDepth 100000
set_option maxHeartbeats 4000000
/-! A list that a def builds item by item; for .. in range(n). -/
namespace WE
open PySem PySem.Spec PyProof.Rows L2 LamX
section
variable {K : PySem.W.Frag} {R : Rs} {σ : L2.St} {H H' H0 : Hp} {n m k : Nat} {te ta : TE} {D : Addr} {es : List PyData} {d : PyData} {acc ys : List V}
theorem ok_lst (kk : Ok R m H) (h : H D = some (.lst acc)) (hn : ¬ R.M D) : Ok R m (upd H D (.lst ys)) := by
  have hb : ∀ b, R.M b → upd H D (.lst ys) b = H b := fun b hm => upd_ne fun z => hn (z ▸ hm)
  refine ⟨fun p hp => ?_, fun b hm => by rw [hb b hm]; exact kk.ml b hm, R.loc _ _ _ hb kk.g⟩
  obtain ⟨ps, t1, t2, t3⟩ := kk.tab p hp
  refine ⟨ps, by rw [upd_ne (ne_of t1 h (fun z => nomatch z))]; exact t1, t2, fun pos cv hcv => ?_⟩
  obtain ⟨c', z1, z2⟩ := t3 pos cv hcv
  exact ⟨c', z1, by rw [upd_ne (ne_of z2 h (fun z => by unfold CodeO at z; cases z))]; exact z2⟩
/-- at D stands a list, not there at H0, with these data -/
structure AccAt (K : PySem.W.Frag) (R : Rs) (H0 : Hp) (D : Addr) (es : List PyData) (H : Hp) : Prop where
  new : H0 D = none
  xt : Xt R H0 H
  nm : ¬ R.M D
  im : immAll es = true
  ex : ∃ acc, H D = some (.lst acc) ∧ DqAll K R.M H acc es
theorem AccAt.go (h : AccAt K R H0 D es H) (x : Xt R H H') : AccAt K R H0 D es H' := by
  obtain ⟨acc, h1, h2⟩ := h.ex
  exact ⟨h.new, h.xt.trans x, h.nm, h.im, acc, x.keep D _ h1 h.nm (fun _ z => nomatch z), h2.mono x⟩
theorem AccAt.lP {p : List PyData → Prop} (h : AccAt K R H0 D es H) (hp : p es) : (lP K R p).r (.ref D) H := by
  obtain ⟨acc, h1, h2⟩ := h.ex
  exact ⟨D, acc, es, rfl, h.nm, h1, h2, hp⟩
theorem AccAt.dq (h : AccAt K R H0 D es H) : Dq K R.M H (.ref D) (.list es) := by
  obtain ⟨acc, h1, h2⟩ := h.ex
  exact .lst (.inl (.inl h1)) h.nm h2
/-- xs = [] -/
theorem ev_acc0 (kk : Ok R m H) {Q : VK} (q : ∀ D, Ok R m (upd H D (.lst [])) → AccAt K R H D [] (upd H D (.lst [])) → Q (.ref D) (upd H D (.lst []))) : tLst tNil σ H Q :=
  ⟨Nat.zero_le _, fun D hD => q D (kk.new hD) ⟨hD, .new hD, kk.fresh hD, rfl, [], upd_same, .nil⟩⟩
/-- xs.append(e), e without lists -/
theorem ev_app {i : Nat} (kk : Ok R n H) (A : AccAt K R H0 D es H) (hi : σ[i]? = some (some (.ref D))) {p : PyData → Prop} (h : Ev R n m te σ H (dP K R p)) (hp : ∀ d, p d → imm d = true) (hl : es.length < 100000) {Q : VK} (q : ∀ d H', p d → Ok R m H' → AccAt K R H0 D (es ++ [d]) H' → (∀ {v e}, Dq K R.M H v e → imm e = true → Dq K R.M H' v e) → Q .non H') : tBM K "list" rAppend (tVar i) (tCons te tNil) σ H Q := by
  obtain ⟨acc, h1, h2⟩ := A.ex
  refine ⟨_, hi, .inl ⟨rfl, _, .of h1⟩, ?_⟩
  refine h H (.refl _) kk _ fun v H2 x2 k2 ⟨d, hd, hpd⟩ => ?_
  have h3 : H2 D = some (.lst acc) := x2.keep D _ h1 A.nm (fun _ z => nomatch z)
  have t : Tx H2 (upd H2 D (.lst (acc ++ [v]))) := .lst h3
  refine ⟨D, acc, v, rfl, rfl, h3, by rw [h2.length]; exact Nat.lt_of_lt_of_le hl (by decide), ?_⟩
  refine q d _ hpd (ok_lst k2 h3 A.nm) ⟨A.new, (A.xt.trans x2).own A.new, A.nm, immAll_mem fun e he => ?_, acc ++ [v], upd_same, (h2.imm (x2.tx.trans t) A.im).append (.cons (hd.imm t (hp d hpd)) .nil)⟩ fun hv he => hv.imm (x2.tx.trans t) he
  rcases List.mem_append.mp he with z | z
  · exact immAll_get A.im e z
  · rw [List.mem_singleton.mp z]
    exact hp d hpd
theorem q_acc0 {i : Nat} {Dn : Ends} {tz : TS} (kk : Ok R m H) (q : ∀ D H', Ok R m H' → AccAt K R H D [] H' → tz Dn (σ.set i (some (.ref D))) H') : tSeq (tAsg (tLst tNil) (gName i)) tz Dn σ H :=
  show tLst tNil σ H (fun x H1 => tz Dn (σ.set i (some x)) H1) from ev_acc0 kk fun D k A => q D _ k A
theorem s_app {i : Nat} {Dn : Ends} (kk : Ok R n H) (A : AccAt K R H0 D es H) (hi : σ[i]? = some (some (.ref D))) {p : PyData → Prop} (h : Ev R n m te σ H (dP K R p)) (hp : ∀ d, p d → imm d = true) (hl : es.length < 100000) (q : ∀ d H', p d → Ok R m H' → AccAt K R H0 D (es ++ [d]) H' → (∀ {v e}, Dq K R.M H v e → imm e = true → Dq K R.M H' v e) → Dn.nx σ H') : tDrop (tBM K "list" rAppend (tVar i) (tCons te tNil)) Dn σ H :=
  show tBM K "list" rAppend (tVar i) (tCons te tNil) σ H (fun x H1 => Dn.nx σ H1) from ev_app kk A hi h hp hl q
end
section
variable {K : PySem.W.Frag} {R : Rs} {σ : L2.St} {H H' : Hp} {n m : Nat} {ta : TE} {D : Ends} {tz tu : TS} {g : TG} {pi : Int → Prop}
/-- for x in range(n) -/
theorem q_rng (k : Ok R n H) (h : Ev R n m ta σ H (iP R pi)) (hp : ∀ i, pi i → 0 ≤ i ∧ i ≤ 100000)
    (z : ∀ (i : Int) (H1 : Hp), pi i → Xt R H H1 → Ok R m H1 → ∃ Pv : Nat → L2.St → Hp → Prop, Pv 0 σ H1 ∧
      (∀ (j : Nat) (σ' : L2.St) (H' : Hp), j < i.toNat → Pv j σ' H' → g (.int (j : Int)) σ' H' fun σ2 H2 => tu { D with nx := Pv (j + 1), ct := Pv (j + 1), bk := tz D } σ2 H2) ∧
      ∀ σ' H', Pv i.toNat σ' H' → tz D σ' H') : tSeq (tFor (iRng1 (tCons ta tNil)) g tu) tz D σ H := by
  refine h H (.refl _) k _ fun v H1 x1 k1 ⟨i, e, hi⟩ => ?_
  subst e
  obtain ⟨h1, h2⟩ := hp i hi
  obtain ⟨Pv, z0, z2, z3⟩ := z i H1 hi x1 k1
  refine ⟨i, rfl, by omega, by omega, for_it (D := { D with nx := tz D }) (walk_range (lo := 0) (n := i.toNat)) Pv z0 (fun _ _ _ _ _ => trivial) (fun j x σ' H' H'' hj q y => ?_) z3⟩
  obtain ⟨e1, e2⟩ := y
  subst e1 e2
  have := z2 j σ' H'' hj q
  rw [← Int.zero_add (j : Int)] at this
  exact this
end
end WE

set_option Elab.async false
set_option linter.all false
set_option maxRecDepth 100000
set_option maxHeartbeats 4000000
/-! == by an own __eq__, whatever it answers: both ways round, !=, in, index. -/
namespace WQ
open PySem PySem.Spec PyProof.Rows L2
section
variable {X : Cx} {CX : CXT} {n : Nat} {f C : Addr} {sp : Sp} {E : XK}
theorem run_sub {A : Around} {pins : List (Addr × Obj)} {σ : L2.St} {H : Hp} {s : Shared} {us : List Value} {vs : List V} {Q : VK} (F : FnR X.prog X.w X.K X.mg X.base CX n f sp) (sb : Sub X n A) (hx : Passes CX X E) (I : Inv X pins σ H s) (r : Vals vs us) (h : sp vs H Q E) :
    wpAny (model X.prog X.w) A (call (.ref f) us) (EP X pins σ Q) X.xe s := by
  have e0 : Env0 X.prog X.w X.K X.mg X.base A X.stack s H := by
    have e := I.env0
    exact ⟨by rw [sb.fr]; exact e.frames, e.mod, e.bs, e.bsz, e.funs, e.frf, e.hok, e.bare⟩
  refine wpAny_call (codeAny_mono (F A X.stack s H us vs Q E sb.room e0 r h) fun r s' hq => ?_)
  cases r with
  | error e => exact hx pins σ H s e s' I hq
  | ok fl =>
    cases fl with
    | ret w => exact I.after hq
    | next => exact False.elim hq
    | brk => exact False.elim hq
    | cont => exact False.elim hq
/-- the class has an own == at f -/
structure OwnQ (X : Cx) (CX : CXT) (n : Nat) (C f : Addr) (sp : Sp) : Prop where
  eq : PySem.W.findIn X.K (.ref C) "__eq__" = some (some (.ref f))
  fn : PySem.W.isFn X.K (.ref f) = true
  run : FnR X.prog X.w X.K X.mg X.base CX n f sp
/-- x == y, x an instance with an own ==, y's class not below x's -/
def rOwnQ (K : PySem.W.Frag) (C : Addr) (sp : Sp) (E : XK) : R2 := fun x y H Q => ∃ a dx fs t, x = .ref a ∧ H a = some (.ins C dx fs) ∧ TyX K H y t ∧ PySem.W.notFirst K C t = true ∧ sp [x, y] H (fun v H' => ∃ b, v = .bl b ∧ Q (.bl b) H') E
theorem rc_own {A : Around} {pins : List (Addr × Obj)} {σ : L2.St} {H : Hp} {s : Shared} {x y : V} {u v : Value} {Q : VK} (O : OwnQ X CX n C f sp) (sb : Sub X n A) (hx : Passes CX X E) (I : Inv X pins σ H s) (rx : RelV x u) (ry : RelV y v) (h : rOwnQ X.K C sp E x y H Q) :
    wpAny (model X.prog X.w) A (richCompare .Eq u v) (fun r s' => ∃ b, r = .bool b ∧ ∃ H', Inv X pins σ H' s' ∧ Q (.bl b) H') X.xe s := by
  obtain ⟨a, dx, fs, t, rfl, ha, ty, hn, q⟩ := h
  cases (show u = Value.ref a from rx)
  obtain ⟨mA, J, _⟩ := ins_get I.hok ha
  obtain ⟨od, J, _⟩ := J.look
  obtain ⟨P, kit, hP, _⟩ := kit_of I ry ty
  obtain ⟨m, hF⟩ := I.fr
  refine PySem.W.cmp_K (op := .Eq) sb.room.units0 hF I.ok.mod.kin J (kit.ty _ _ I.kIn hP) hn O.eq O.fn ?_
  refine wpAny_mono (run_sub (us := [.ref a, v]) (vs := [.ref a, y]) O.run sb hx I (.cons rfl (.cons ry .nil)) q) (fun w s' z => ?_) fun _ _ x => x
  obtain ⟨z', H', I', rz, b, rfl, qz⟩ := z
  cases (show w = Value.bool b from rz)
  exact ⟨b, rfl, H', I', qz⟩
theorem op_ownQ (O : OwnQ X CX n C f sp) (hr : Room n X.A) (hx : Passes CX X E) : OpR X (compareOp .Eq) (rOwnQ X.K C sp E) := by
  intro pins s σ H x y v u Q I rx ry h
  show wpAny (model X.prog X.w) X.A (richCompare .Eq v u) (EP X pins σ Q) X.xe s
  refine wpAny_mono (rc_own O ⟨hr, rfl⟩ hx I rx ry h) (fun r s' z => ?_) fun _ _ x => x
  obtain ⟨b, rfl, H', I', q⟩ := z
  exact ⟨.bl b, H', I', rfl, q⟩
end
/-! ### the other way round -/
theorem int_eq_ins (i : Int) (t : Tok) (l C dx : Addr) : Meets (Builtin.«int.__eq__» ⟨[.int i t, .ref l], []⟩) (fun _ R s => s.heap.get? l = some (PySem.W.instObj C dx) ∧ R (.ok (.ret .notImplemented)) s) :=
  .of_wp fun prog w A R s h => by
    obtain ⟨hp, g, d, tk, os⟩ := s
    obtain ⟨hl, h⟩ := h
    wp_walk using AutoSeq1.wpAny_loadPart' hl
    exact ⟨_, rfl, h⟩
theorem str_eq_ins (z : Str) (t : Tok) (l C dx : Addr) : Meets (Builtin.«str.__eq__» ⟨[.str z t, .ref l], []⟩) (fun _ R s => s.heap.get? l = some (PySem.W.instObj C dx) ∧ R (.ok (.ret .notImplemented)) s) :=
  .of_wp fun prog w A R s h => by
    obtain ⟨hp, g, d, tk, os⟩ := s
    obtain ⟨hl, h⟩ := h
    wp_walk using AutoSeq1.wpAny_loadPart' hl
    exact ⟨_, rfl, h⟩
/-- the class is not below the atoms' types -/
structure Away (K : PySem.W.Frag) (C : Addr) : Prop where
  non : PySem.W.subIn K (.ref C) (.type "NoneType") = some false
  int : PySem.W.subIn K (.ref C) (.type "int") = some false
  str : PySem.W.subIn K (.ref C) (.type "str") = some false
section
variable {X : Cx} {CX : CXT} {n : Nat} {f C : Addr} {sp : Sp} {E : XK}
theorem rc_back {T id : String} {A : Around} {pins : List (Addr × Obj)} {σ : L2.St} {H : Hp} {s : Shared} {x : V} {u : Value} {b dx : Addr} {fs : List (Str × V)} {Q : VK} (O : OwnQ X CX n C f sp) (sb : Sub X n A) (hx : Passes CX X E) (I : Inv X pins σ H s) (rx : RelV x u) (hb : H b = some (.ins C dx fs))
    (hT : s.TypeIs u T) (slot : Slot T "__eq__" id) (dec : ∀ Q' : Value → Shared → Prop, s.heap.get? b = some (PySem.W.instObj C dx) → Q' .notImplemented s → wpAny (model X.prog X.w) A (call (.builtin id) [u, .ref b]) Q' X.xe s) (sub : PySem.W.subIn X.K (.ref C) (.type T) = some false)
    (h : sp [.ref b, x] H (fun v H' => ∃ k, v = .bl k ∧ Q (.bl k) H') E) :
    wpAny (model X.prog X.w) A (richCompare .Eq u (.ref b)) (fun r s' => ∃ k, r = .bool k ∧ ∃ H', Inv X pins σ H' s' ∧ Q (.bl k) H') X.xe s := by
  obtain ⟨mA, J0, _⟩ := ins_get I.hok hb
  have ob := J0.obj
  obtain ⟨od, J, _⟩ := J0.look
  have one : wpAny (model X.prog X.w) A (tryCompare (.ref b) "__eq__" u) (fun r s' => ∃ k, r = some (.bool k) ∧ ∃ H', Inv X pins σ H' s' ∧ Q (.bl k) H') X.xe s := by
    unfold tryCompare
    refine wpAny_bind (PySem.W.ifBound_K I.kIn J O.eq O.fn (wpAny_mono (run_sub (us := [.ref b, u]) (vs := [.ref b, x]) O.run sb hx I (.cons rfl (.cons rx .nil)) h) (fun w s' z => ?_) fun _ _ x => x))
    obtain ⟨z', H', I', rz, k, rfl, qz⟩ := z
    cases (show w = Value.bool k from rz)
    exact wpAny_pure ⟨k, rfl, H', I', qz⟩
  simp only [richCompare, cmpInfo_Eq, hT.oneThing_none]
  refine wpAny_holding (wpAny_bind (wpAny_cRoomFor sb.room.units0 ?_))
  refine wpAny_bind (wpAny_typeOf hT (wpAny_bind (J.type.here ?_)))
  split
  · refine wpAny_bind ((PySem.W.looks_subIn I.kIn sub).here ?_)
    simp only [Bool.false_eq_true, if_false, Bool.not_false, if_true]
    refine wpAny_bind (m := tryCompare u _ (.ref b)) (wpAny_tryCompare_declines hT slot (dec _ ob ⟨rfl, ?_⟩))
    refine wpAny_bind (m := tryCompare (.ref b) _ u) (wpAny_mono one (fun r s1 z => ?_) fun _ _ e => e)
    obtain ⟨k, rfl, z⟩ := z
    exact wpAny_pure ⟨k, rfl, z⟩
  · rename_i q
    exact absurd (by simp) q
/-- x == y inside a builtin: the same object, or x an instance with an own ==, or x an atom and y such an instance -/
def EqO (X : Cx) (n : Nat) (r : R2) : Prop := ∀ (A : Around) (pins : List (Addr × Obj)) (s : Shared) (σ : L2.St) (H : Hp) (x y : V) (u v : Value) (Q : VK), Sub X n A → Inv X pins σ H s → RelV x u → RelV y v → r x y H Q →
  wpAny (model X.prog X.w) A (eqBool u v) (fun k s' => ∃ H', Inv X pins σ H' s' ∧ Q (.bl k) H') X.xe s
theorem EqO.or {r r' : R2} (h : EqO X n r) (h' : EqO X n r') : EqO X n (fun x y H Q => r x y H Q ∨ r' x y H Q) := fun A pins s σ H x y u v Q sb I rx ry d => d.elim (h A pins s σ H x y u v Q sb I rx ry) (h' A pins s σ H x y u v Q sb I rx ry)
def rSame : R2 := fun x y H Q => ∃ a, x = .ref a ∧ y = .ref a ∧ Q (.bl true) H
theorem eqO_same : EqO X n rSame := fun A pins s σ H x y u v Q sb I rx ry ⟨a, e1, e2, q⟩ => by
  subst e1 e2
  cases (show u = Value.ref a from rx)
  cases (show v = Value.ref a from ry)
  exact SeqAt.EqAt.same (A := A) (s := s) (.ref a) X.prog X.w X.xe _ ⟨H, I, q⟩
theorem eqBool_of {A : Around} {s : Shared} {u v : Value} {Q : Bool → Shared → Prop} {E : Value → Shared → Prop} (hne : u ≠ v) (hf : (∃ a, u = .ref a) ∨ ∃ a, v = .ref a) (h : wpAny (model X.prog X.w) A (richCompare .Eq u v) (fun r s' => ∃ k, r = .bool k ∧ Q k s') E s) : wpAny (model X.prog X.w) A (eqBool u v) Q E s := by
  unfold eqBool
  refine wpAny_holding ?_
  refine wpAny_ite_split (fun hab => absurd (eq_of_beq hab) hne) (fun _ => ?_)
  have fin : wpAny (model X.prog X.w) A (richCompare .Eq u v >>= fun r => truthOfDropped r) Q E s := wpAny_bind (wpAny_mono h (fun r s' z => by
    obtain ⟨k, rfl, q⟩ := z
    exact wpAny_truthy_bool q) fun _ _ x => x)
  rcases hf with ⟨a, rfl⟩ | ⟨a, rfl⟩
  · exact fin
  · cases u <;> exact fin
def rOwnB (K : PySem.W.Frag) (C : Addr) (sp : Sp) (E : XK) : R2 := fun x y H Q => x ≠ y ∧ rOwnQ K C sp E x y H Q
theorem eqO_own (O : OwnQ X CX n C f sp) (hx : Passes CX X E) : EqO X n (rOwnB X.K C sp E) := fun A pins s σ H x y u v Q sb I rx ry ⟨ne, d⟩ => by
  obtain ⟨a, dx, fs, t, rfl, _⟩ := id d
  have hu : u = Value.ref a := rx
  refine eqBool_of (fun e => ?_) (.inl ⟨a, hu⟩) (rc_own O sb hx I rx ry d)
  subst hu
  subst e
  cases y with
  | ref b =>
    have e : Value.ref a = Value.ref b := ry
    cases e
    exact ne rfl
  | _ => first | cases (show Value.ref a = _ from ry) | (obtain ⟨t, e⟩ := (show ∃ t, Value.ref a = _ from ry); cases e)
def rBack (K : PySem.W.Frag) (C : Addr) (sp : Sp) (E : XK) : R2 := fun x y H Q => (x = .non ∨ (∃ i, x = .int i) ∨ ∃ z, x = .str z) ∧ ∃ b dx fs, y = .ref b ∧ H b = some (.ins C dx fs) ∧ sp [y, x] H (fun v H' => ∃ k, v = .bl k ∧ Q (.bl k) H') E
theorem eqO_back (O : OwnQ X CX n C f sp) (W : Away X.K C) (hx : Passes CX X E) : EqO X n (rBack X.K C sp E) := fun A pins s σ H x y u v Q sb I rx ry ⟨hat, b, dx, fs, e, hb, q⟩ => by
  subst e
  cases (show v = Value.ref b from ry)
  rcases hat with rfl | ⟨i, rfl⟩ | ⟨z, rfl⟩
  · cases (show u = Value.none from rx)
    exact eqBool_of (fun e => nomatch e) (.inr ⟨b, rfl⟩) (rc_back (T := "NoneType") O sb hx I rx hb rfl F.slot_NoneType_eq_refl (fun Q' _ q => call_gives F.slot_NoneType_eq_refl rfl F.entry_NoneType_eq (F.args_NoneType_eq_2 _ _) (SeqAt.NoneType___eq___none_ref_0 b) q) W.non q)
  · obtain ⟨t, e⟩ := (show ∃ t, u = Value.int i t from rx)
    subst e
    exact eqBool_of (fun e => nomatch e) (.inr ⟨b, rfl⟩) (rc_back (T := "int") O sb hx I rx hb (typeIs_int s i t) F.slot_int_eq (fun Q' ho q => call_meets F.slot_int_eq (typeIs_int s i t) F.entry_int_eq (F.args_int_eq_2 _ _) (int_eq_ins i t b C dx) ⟨ho, q⟩) W.int q)
  · obtain ⟨t, e⟩ := (show ∃ t, u = Value.str z t from rx)
    subst e
    exact eqBool_of (fun e => nomatch e) (.inr ⟨b, rfl⟩) (rc_back (T := "str") O sb hx I rx hb (typeIs_str s z t) F.slot_str_eq (fun Q' ho q => call_meets F.slot_str_eq (typeIs_str s z t) F.entry_str_eq (F.args_str_eq_2 _ _) (str_eq_ins z t b C dx) ⟨ho, q⟩) W.str q)
end
end WQ

set_option Elab.async false
set_option linter.all false
set_option maxRecDepth 100000
set_option maxHeartbeats 4000000
/-! != by an own __eq__; in and index over such. -/
namespace WQ
open PySem PySem.Spec PyProof.Rows L2
section
variable {X : Cx} {CX : CXT} {n : Nat} {f C : Addr} {sp : Sp} {E : XK}
/-- the class has object's != -/
structure NeObj (K : PySem.W.Frag) (C : Addr) : Prop where
  ne : PySem.W.findIn K (.ref C) "__ne__" = some (some (.builtin "object.__ne__"))
  ob : PySem.W.mroIn K C (.type "object") = some true
section
variable {prog : Program} {w : World} {A : Around} {EE : Value → Shared → Prop} {s : Shared} {K : PySem.W.Frag} {x : Addr} {ox : Obj} {od : Option Obj} {v : Value}
theorem ne_entry {Q : Fin → Shared → Prop} (hu : A.units < cLine) (Xk : K.In s.heap) (I : PySem.W.InstAt s.heap x ox C od) (hs : PySem.W.findIn K (.ref C) "__eq__" = some (some (.ref f))) (hf : PySem.W.isFn K (.ref f) = true)
    (h : wpAny (model prog w) A (call (.ref f) [.ref x, v]) (fun r s' => ∃ k, r = .bool k ∧ Q (.done (.ret (.bool (!k)))) s') EE s) : wpAny (model prog w) A (Builtin.«object.__ne__» ⟨[.ref x, v], []⟩) Q EE s := by
  unfold Builtin.«object.__ne__»
  repeat (first
    | with_reducible refine wpAny_cRoomFor hu ?_
    | (refine wpAny_bind (m := callSpecialIfBound? (.ref x) (Str.ofString "__eq__") [v])
        (PySem.W.ifBound_K Xk I hs hf (wpAny_mono h (fun r s' hr => by
          obtain ⟨k, rfl, hq⟩ := hr
          repeat (first | exact hq | exact wpAny_pure hq | exact wpAny_truthy_bool hq | (refine wpAny_bind (m := truthy (.bool _)) (wpAny_truthy_bool ?_)) | wp_step)) fun _ _ e => e)))
    | wp_step)
theorem call_objNe {Q : Value → Shared → Prop} (hu : A.in1.units < cLine) (Xk : K.In s.heap) (I : PySem.W.InstAt s.heap x ox C od) (hs : PySem.W.findIn K (.ref C) "__eq__" = some (some (.ref f))) (hf : PySem.W.isFn K (.ref f) = true) (hm : PySem.W.mroIn K C (.type "object") = some true)
    (h : wpAny (model prog w) A.in1 (call (.ref f) [.ref x, v]) (fun r s' => ∃ k, r = .bool k ∧ Q (.bool (!k)) s') EE s) : wpAny (model prog w) A (call (.builtin "object.__ne__") [.ref x, v]) Q EE s :=
  wpAny_call (codeAny_call_builtin F.cmp_object.ne.plain F.cmpEntry_ne (PySem.W.check_slot F.cmpKind_ne F.cmpSplit_ne (I.type.andThen (PySem.W.looks_mroIn Xk hm)) (F.cmpArgs_ne _ _) (ne_entry hu Xk I hs hf h)))
theorem ifBound_objNe {args : List Value} {Q : Option Value → Shared → Prop} (Xk : K.In s.heap) (I : PySem.W.InstAt s.heap x ox C od) (hs : PySem.W.findIn K (.ref C) "__ne__" = some (some (.builtin "object.__ne__")))
    (h : wpAny (model prog w) A (call (.builtin "object.__ne__") (.ref x :: args)) (fun v => Q (some v)) EE s) : wpAny (model prog w) A (callSpecialIfBound? (.ref x) "__ne__" args) Q EE s := by
  simp only [callSpecialIfBound?, bindSpecialIfBound?]
  refine wpAny_holding (wpAny_bind (wpAny_bind (wpAny_bind (I.type.here ((PySem.W.looks_findIn Xk hs).here ?_)))))
  refine wpAny_bind (wpAny_askSetting (wpAny_ite ?_))
  have fin : wpAny (model prog w) A (call (.builtin "object.__ne__") ([.ref x] ++ args) >>= fun v => pure (some v)) Q EE s := wpAny_bind (wpAny_mono h (fun v s' h' => wpAny_pure h') fun _ _ h' => h')
  split
  · exact wpAny_bind (wpAny_of_eq (F.cmp_object.ne.bind _) (wpAny_pure (by exact fin)))
  · exact wpAny_tryCatch (wpAny_bind (wpAny_of_eq (F.cmp_object.ne.bind _) (wpAny_pure (by exact fin))))
end
/-- x != y, x an instance with an own ==, y's class not below x's -/
def rOwnN (K : PySem.W.Frag) (C : Addr) (sp : Sp) (E : XK) : R2 := fun x y H Q => ∃ a dx fs t, x = .ref a ∧ H a = some (.ins C dx fs) ∧ TyX K H y t ∧ PySem.W.notFirst K C t = true ∧ sp [x, y] H (fun v H' => ∃ b, v = .bl b ∧ Q (.bl (!b)) H') E
theorem op_ownN (O : OwnQ X CX n C f sp) (N : NeObj X.K C) (hr : Room (n + 1) X.A) (hx : Passes CX X E) : OpR X (compareOp .NotEq) (rOwnN X.K C sp E) := by
  intro pins s σ H x y v u Q I rx ry h
  show wpAny (model X.prog X.w) X.A (richCompare .NotEq v u) (EP X pins σ Q) X.xe s
  obtain ⟨a, dx, fs, t, rfl, ha, ty, hn, q⟩ := h
  cases (show v = Value.ref a from rx)
  obtain ⟨mA, J, _⟩ := ins_get I.hok ha
  obtain ⟨od, J, _⟩ := J.look
  obtain ⟨P, kit, hP, _⟩ := kit_of I ry ty
  have lb := kit.ty (model X.prog X.w) _ I.kIn hP
  have sb : Sub X (n + 1) X.A := ⟨hr, rfl⟩
  have one : wpAny (model X.prog X.w) X.A (tryCompare (.ref a) "__ne__" u) (fun r s' => ∃ k, r = some (.bool k) ∧ ∃ H', Inv X pins σ H' s' ∧ Q (.bl k) H') X.xe s := by
    unfold tryCompare
    refine wpAny_bind (ifBound_objNe I.kIn J N.ne (call_objNe sb.in1.room.units0 I.kIn J O.eq O.fn N.ob (wpAny_mono (run_sub (us := [.ref a, u]) (vs := [.ref a, y]) O.run sb.in1 hx I (.cons rfl (.cons ry .nil)) q) (fun w s' z => ?_) fun _ _ x => x)))
    obtain ⟨z', H', I', rz, b, rfl, qz⟩ := z
    cases (show w = Value.bool b from rz)
    exact ⟨b, rfl, wpAny_pure ⟨!b, rfl, H', I', qz⟩⟩
  simp only [richCompare, cmpInfo_NotEq, oneThing_ref]
  refine wpAny_holding (wpAny_bind (wpAny_cRoomFor sb.room.units0 ?_))
  refine wpAny_bind (J.type.here (wpAny_bind (lb.here ?_)))
  split
  · rename_i q
    have e : PySem.W.subIn X.K t (.ref C) = some false := by
      rcases Bool.or_eq_true_iff.mp hn with e | e
      · rw [beq_iff_eq.mp e] at q; simp at q
      · exact beq_iff_eq.mp e
    refine wpAny_bind ((PySem.W.looks_subIn I.kIn e).here ?_)
    simp only [Bool.false_eq_true, if_false]
    refine wpAny_bind (wpAny_mono one (fun r s' z => ?_) fun _ _ e => e)
    obtain ⟨k, rfl, H', I', qz⟩ := z
    exact wpAny_pure ⟨.bl k, H', I', rfl, qz⟩
  · refine wpAny_bind (wpAny_pure ?_)
    simp only [Bool.false_eq_true, if_false]
    refine wpAny_bind (wpAny_mono one (fun r s' z => ?_) fun _ _ e => e)
    obtain ⟨k, rfl, H', I', qz⟩ := z
    exact wpAny_pure ⟨.bl k, H', I', rfl, qz⟩
/-! ### in -/
/-- the answers of ==, item by item, until one is True -/
def Chain (r : R2) (p : Addr) (x : V) (xs : List V) : List V → Hp → VK → Prop
  | [], H, Q => Q (.bl false) H
  | z :: zs, H, Q => r z x H fun v H' => ∃ b, v = .bl b ∧ (b = true → Q (.bl true) H') ∧ (b = false → H' p = some (.lst xs) ∧ Chain r p x xs zs H' Q)
def rInO (r : R2) : R2 := fun x y H Q => ∃ p xs, y = .ref p ∧ H p = some (.lst xs) ∧ Chain r p x xs xs H Q
theorem in_loop {r : R2} (h : EqO X n r) {A : Around} (sb : Sub X (n + 1) A) {pins : List (Addr × Obj)} {σ : L2.St} {p : Addr} {x : V} {u : Value} {xs : List V} {Q : VK} (rx : RelV x u) :
    ∀ (zs : List V) (i : Nat) (H : Hp) (s : Shared), xs.drop i = zs → Inv X pins σ H s → H p = some (.lst xs) → Chain r p x xs zs H Q →
      wpAny (model X.prog X.w) A.in1 (Builtin.«list.__contains__.loop» ⟨[.ref p, u, rawInt i], []⟩) (GQ.FinOf X.prog X.w A (wants (fun v s' => ∃ k, v = .bool k ∧ ∃ H', Inv X pins σ H' s' ∧ Q (.bl k) H') X.xe)) (fun e s' => wants (fun v s' => ∃ k, v = .bool k ∧ ∃ H', Inv X pins σ H' s' ∧ Q (.bl k) H') X.xe (.error e) s') s
  | [], i, H, s, hz, I, hp, c => by
    obtain ⟨z0, its, k, rr, e⟩ := I.hok p _ hp
    have hi : its.toArray[((i : Nat) : Int).toNat]? = none := by
      have h1 := List.drop_eq_nil_iff.mp hz
      have h2 := rr.length
      simp
      omega
    have hc : ∃ H', Inv X pins σ H' s ∧ Q (.bl false) H' := ⟨H, I, c⟩
    obtain ⟨hp0, g, d, tk, os⟩ := s
    wp_walk using AutoSeq1.wpAny_loadPart' e
    rw [hi]
    wp_walk
    exact ⟨false, rfl, hc⟩
  | z :: zs, i, H, s, hz, I, hp, c => by
    obtain ⟨z0, its, k, rr, e⟩ := I.hok p _ hp
    have hx : xs[i]? = some z := by
      have := List.getElem?_drop (xs := xs) (i := i) (j := 0)
      rw [hz] at this
      simpa using this.symm
    obtain ⟨w, hw, rw'⟩ := rr.get hx
    have hi : its.toArray[((i : Nat) : Int).toNat]? = some w := by simpa using hw
    have hc : ((i : Int) + 1) = ((i + 1 : Nat) : Int) := by omega
    have ht := h A.in1 pins s σ H z x w u _ sb.in1 I rw' rx c
    obtain ⟨hp0, g, d, tk, os⟩ := s
    wp_walk using AutoSeq1.wpAny_loadPart' e
    rw [hi]
    refine wpAny_bind (wpAny_mono ht (fun b s2 q => ?_) fun _ _ x => x)
    obtain ⟨H2, I2, b', eb, q1, q2⟩ := q
    cases eb
    cases b with
    | true =>
      wp_walk
      exact ⟨true, rfl, H2, I2, q1 rfl⟩
    | false =>
      obtain ⟨hp2, c2⟩ := q2 rfl
      have hrec := in_loop h sb rx zs (i + 1) H2 s2 (by rw [← List.drop_drop, hz] <;> rfl) I2 hp2 c2
      obtain ⟨h2, g2, d2, tk2, os2⟩ := s2
      wp_walk
      rw [hc]
      exact ⟨plainId_quiet MeetsSeq.plain_contains_loop _, codeAny_builtin MeetsSeq.entry_contains_loop (by
        rw [Around.under_plainId MeetsSeq.plain_contains_loop _]
        exact hrec)⟩
end
end WQ

set_option Elab.async false
set_option linter.all false
set_option maxRecDepth 100000
set_option maxHeartbeats 4000000
/-! in and index over lists of own objects. -/
namespace WQ
open PySem PySem.Spec PyProof.Rows L2
section
variable {X : Cx} {n : Nat} {r : R2}
theorem op_inO (h : EqO X n r) (hr : Room (n + 1) X.A) : OpR X (compareOp .In) (rInO r) := by
  intro pins s σ H x y v u Q I rx ry hh
  obtain ⟨p, xs, rfl, hp, c⟩ := hh
  cases (show u = Value.ref p from ry)
  obtain ⟨z0, its, k, rr, e⟩ := I.hok p _ hp
  show wpAny _ X.A (do return .bool (← contains (.ref p) v)) (EP X pins σ Q) X.xe s
  refine wpAny_bind (PySem.wpAny_contains_slot ⟨_, e, rfl⟩ F.slot_list_contains (wpAny_mono (GQ.call_here (Q := fun v s' => ∃ k, v = .bool k ∧ ∃ H', Inv X pins σ H' s' ∧ Q (.bl k) H') F.slot_list_contains ⟨_, e, rfl⟩ F.entry_list_contains (F.args_list_contains_2 _ _) ?_) (fun w s' hv => ?_) fun _ _ e => e))
  · have hl := in_loop h ⟨hr, rfl⟩ (Q := Q) rx xs 0 H s rfl I hp c
    obtain ⟨h0, g, d, tk, os⟩ := s
    wp_walk using AutoSeq1.wpAny_loadPart' e
    exact ⟨plainId_quiet MeetsSeq.plain_contains_loop _, codeAny_builtin MeetsSeq.entry_contains_loop (by
      rw [Around.under_plainId MeetsSeq.plain_contains_loop _]
      exact hl)⟩
  · obtain ⟨b, rfl, H', I', q⟩ := hv
    exact wpAny_truthy_bool (wpAny_pure ⟨.bl b, H', I', rfl, q⟩)
/-- the answers of ==, item by item, one of them True -/
def ChainI (r : R2) (p : Addr) (x : V) (xs : List V) : Nat → List V → Hp → VK → Prop
  | _, [], _, _ => False
  | i, z :: zs, H, Q => r z x H fun v H' => ∃ b, v = .bl b ∧ (b = true → Q (.int (i : Nat)) H') ∧ (b = false → H' p = some (.lst xs) ∧ ChainI r p x xs (i + 1) zs H' Q)
def rIdxO (r : R2) : V → List V → Hp → VK → Prop := fun o vs H Q => ∃ p x xs, o = .ref p ∧ vs = [x] ∧ H p = some (.lst xs) ∧ ChainI r p x xs 0 xs H Q
theorem idx_loop (h : EqO X n r) {A : Around} (sb : Sub X (n + 1) A) {pins : List (Addr × Obj)} {σ : L2.St} {p : Addr} {x : V} {u : Value} {xs : List V} {Q : VK} (rx : RelV x u) (upto : Int) (hsz : (xs.length : Int) ≤ upto) :
    ∀ (zs : List V) (i : Nat) (H : Hp) (s : Shared), xs.drop i = zs → Inv X pins σ H s → H p = some (.lst xs) → ChainI r p x xs i zs H Q →
      wpAny (model X.prog X.w) A.in1 (Builtin.«list.index.loop» ⟨[.ref p, u, rawInt i, rawInt upto], []⟩) (GQ.FinOf X.prog X.w A (wants (EP X pins σ Q) X.xe)) (fun e s' => wants (EP X pins σ Q) X.xe (.error e) s') s
  | [], i, H, s, hz, I, hp, c => c.elim
  | z :: zs, i, H, s, hz, I, hp, c => by
    obtain ⟨z0, its, k, rr, e⟩ := I.hok p _ hp
    have hx : xs[i]? = some z := by
      have := List.getElem?_drop (xs := xs) (i := i) (j := 0)
      rw [hz] at this
      simpa using this.symm
    have hlt : i < xs.length := (List.getElem?_eq_some_iff.mp hx).1
    obtain ⟨w, hw, rw'⟩ := rr.get hx
    have hst : (i : Int) < upto := by omega
    have hi : (if (i : Int) < upto then its.toArray[((i : Nat) : Int).toNat]? else none) = some w := by
      rw [if_pos hst]
      simpa using hw
    have hc : ((i : Int) + 1) = ((i + 1 : Nat) : Int) := by omega
    have ht := h A.in1 pins s σ H z x w u _ sb.in1 I rw' rx c
    obtain ⟨hp0, g, d, tk, os⟩ := s
    wp_walk using AutoSeq1.wpAny_loadPart' e
    rw [hi]
    refine wpAny_bind (wpAny_mono ht (fun b s2 q => ?_) fun _ _ x => x)
    obtain ⟨H2, I2, b', eb, q1, q2⟩ := q
    cases eb
    cases b with
    | true =>
      obtain ⟨h2, g2, d2, tk2, os2⟩ := s2
      have I3 := I2.tok (tk2 + 1)
      wp_walk
      exact ⟨.int (i : Nat), H2, I3, ⟨_, rfl⟩, q1 rfl⟩
    | false =>
      obtain ⟨hp2, c2⟩ := q2 rfl
      have hrec := idx_loop h sb rx upto hsz zs (i + 1) H2 s2 (by rw [← List.drop_drop, hz] <;> rfl) I2 hp2 c2
      obtain ⟨h2, g2, d2, tk2, os2⟩ := s2
      wp_walk
      rw [hc]
      exact ⟨plainId_quiet MeetsSeq.plain_index_loop _, codeAny_builtin MeetsSeq.entry_index_loop (by
        rw [Around.under_plainId MeetsSeq.plain_index_loop _]
        exact hrec)⟩
theorem mt_indexO (h : EqO X n r) (hr : Room (n + 1) X.A) : MtR X "list.index" (fun o vs H Q => rIdxO r o vs H Q ∧ ∀ p xs, o = .ref p → H p = some (.lst xs) → xs.length ≤ 1000) := by
  intro pins s σ H o vs v us Q I ro rxs hh
  obtain ⟨⟨p, x, xs, rfl, rfl, hp, c⟩, hsz⟩ := hh
  cases (show v = Value.ref p from ro)
  cases rxs with
  | cons rx rt =>
    rename_i uy ut
    cases rt
    obtain ⟨z0, its, k, rr, e⟩ := I.hok p _ hp
    refine GQ.call_here (Q := EP X pins σ Q) F.slot_list_index ⟨_, e, rfl⟩ F.entry_list_index (F.args_list_index_2 _ _) ?_
    have hl := idx_loop h ⟨hr, rfl⟩ (Q := Q) rx (2 ^ 63 - 1) (by have := hsz p xs rfl hp; omega) xs 0 H s rfl I hp c
    obtain ⟨h0, g, d, tk, os⟩ := s
    wp_walk using AutoSeq1.wpAny_loadPart' e
    have a1 : ((fun i : Int => if i < 0 then max 0 (i + (its.toArray.size : Int)) else i) ((none : Option Int).getD 0)) = ((0 : Nat) : Int) := by simp
    have a2 : ((fun i : Int => if i < 0 then max 0 (i + (its.toArray.size : Int)) else i) ((none : Option Int).getD (2 ^ 63 - 1))) = 2 ^ 63 - 1 := by simp
    rw [a1, a2]
    exact ⟨plainId_quiet MeetsSeq.plain_index_loop _, codeAny_builtin MeetsSeq.entry_index_loop (by
      rw [Around.under_plainId MeetsSeq.plain_index_loop _]
      exact hl)⟩
end
end WQ

set_option Elab.async false
set_option linter.all false
set_option maxRecDepth 100000
set_option maxHeartbeats 4000000
namespace LW
open PySem PySem.Spec PyProof.Rows L2 LamX WE
/-! ### what the tables ask -/
def intFrom (lo : Int) : PyData → Bool
  | .int i => decide (lo ≤ i)
  | _ => false
def below (hi : Int) : PyData → Bool
  | .int i => decide (0 ≤ i) && decide (i < hi)
  | _ => false
def nonBelow (hi : Int) : PyData → Bool
  | .none => true
  | d => below hi d
def isStates (many size : Int) : PyData → Bool
  | .tuple ds => decide ((ds.length : Int) = many) && ds.all (below size)
  | _ => false
def isGifts (many values : Int) : PyData → Bool
  | .tuple ds => decide ((ds.length : Int) = many) && ds.all (nonBelow values)
  | _ => false
theorem kit_int (d : PyData) : (kitB (tname d) "int").isSome = true := by cases d <;> simp only [tname] <;> decide +kernel
theorem kit_bool (d : PyData) : (kitB (tname d) "bool").isSome = true := by cases d <;> simp only [tname] <;> decide +kernel
theorem kit_list (d : PyData) : (kitB (tname d) "list").isSome = true := by cases d <;> simp only [tname] <;> decide +kernel
theorem kit_tuple (d : PyData) : (kitB (tname d) "tuple").isSome = true := by cases d <;> simp only [tname] <;> decide +kernel
theorem isT_int (d : PyData) : isT "int" d = (match d with | .int _ => true | .bool _ => true | _ => false) := by cases d <;> simp only [isT, tname] <;> decide +kernel
theorem isT_bool (d : PyData) : isT "bool" d = (match d with | .bool _ => true | _ => false) := by cases d <;> simp only [isT, tname] <;> decide +kernel
theorem isT_list (d : PyData) : isT "list" d = (match d with | .list _ => true | _ => false) := by cases d <;> simp only [isT, tname] <;> decide +kernel
theorem isT_tuple (d : PyData) : isT "tuple" d = (match d with | .tuple _ => true | _ => false) := by cases d <;> simp only [isT, tname] <;> decide +kernel
/-- names that the module does not bind -/
structure Bl (mg : Str → Option Value) : Prop where
  isinstance : mg "isinstance" = none
  int : mg "int" = none
  bool : mg "bool" = none
  list : mg "list" = none
  tuple : mg "tuple" = none
  len : mg "len" = none
  all : mg "all" = none
  enumerate : mg "enumerate" = none
  range : mg "range" = none
section
variable {P : Program} {w : World} {K : PySem.W.Frag} {mg : Str → Option Value} {base : Heap} {T : List (Addr × Str)}
/-! ### is_integer_from -/
theorem sc_is_integer_from : FnScope ["thing", "low"] ["thing", "low"] (defScope s_is_integer_from) := ⟨rfl, rfl, rfl, by decide +kernel, rfl, by decide +kernel, by decide +kernel⟩
abbrev SpIIF (T : List (Addr × Str)) (K : PySem.W.Frag) : Sp := SpD T K 2 (fun ds => ∃ d lo, ds = [d, .int lo]) (fun ds r => ∃ d lo, ds = [d, .int lo] ∧ r = .bool (intFrom lo d))
theorem ok_is_integer_from (D : Def1 K mg "is_integer_from" s_is_integer_from) (B : Bl mg) : Cal P w K mg base CX0 1 "is_integer_from" ["thing", "low"] (SpIIF T K) := by
  refine cal_of D sc_is_integer_from (fun _ _ _ _ _ _ us hl => match us, hl with | [_, _], _ => rfl) (fun vs H Q E h => h.1) (fun f cdv A outer s H vs Q E hr h => ?_)
  obtain ⟨_, R, m, ds, rfl, ok, hd, ⟨d, lo, rfl⟩, q⟩ := h
  obtain ⟨v1, v2, rfl, h1, h3⟩ := dqa2 hd
  cases h3
  refine ⟨_, pss_one (ps_ret (pe_and (pe_callB call_isi (by rfl) B.isinstance (by decide +kernel) (pa_cons (pv 0) (pa_cons (pe_bltn (v := .ty "int") (by rfl) B.int (by decide +kernel) rfl) pa_nil)))
    (pe_and (pe_not (pe_callB call_isi (by rfl) B.isinstance (by decide +kernel) (pa_cons (pv 0) (pa_cons (pe_bltn (v := .ty "bool") (by rfl) B.bool (by decide +kernel) rfl) pa_nil))))
      (pe_one (pe_cmpR op_ge (pv 0) (pv 1) (nomark _)))))), ?_⟩
  refine s_ret ok (ev_andV (ev_isi (ev_dvar rfl h1) fun d _ => kit_int d) fun hp => ev_andV (q := fun b => ∃ i, d = .int i ∧ b = decide (lo ≤ i)) (ev_notV (ev_isi (ev_dvar rfl h1) fun d _ => kit_bool d)) fun hq => ?_) fun v H1 x k r => ?_
  · obtain ⟨d1, rfl, e1⟩ := hp
    obtain ⟨d2, rfl, e2⟩ := hq
    rw [isT_int] at e1
    rw [isT_bool] at e2
    cases d2 with
    | int i =>
      cases h1
      exact ev_I0 (ev_ivar rfl) (ev_ivar rfl) fun i' j' H1 e1 e2 => ⟨_, rfl, i, rfl, by rw [e1, e2]⟩
    | bool b => simp at e2
    | _ => simp at e1
  · obtain ⟨b, rfl, hb⟩ := r
    refine q _ H1 (.bool b) x k (.bl b) ⟨d, lo, rfl, ?_⟩
    rcases hb with ⟨rfl, d1, rfl, e⟩ | ⟨⟨d1, rfl, e1⟩, ⟨rfl, d2, rfl, e2⟩ | ⟨_, i, rfl, rfl⟩⟩
    · rw [isT_int] at e
      cases d1 <;> first | rfl | simp at e
    · rw [isT_bool] at e2
      cases d2 <;> first | rfl | simp at e2
    · rfl
/-! ### is_below -/
theorem sc_is_below : FnScope ["thing", "limit"] ["thing", "limit"] (defScope s_is_below) := ⟨rfl, rfl, rfl, by decide +kernel, rfl, by decide +kernel, by decide +kernel⟩
abbrev SpIB (T : List (Addr × Str)) (K : PySem.W.Frag) : Sp := SpD T K 2 (fun ds => ∃ d hi, ds = [d, .int hi]) (fun ds r => ∃ d hi, ds = [d, .int hi] ∧ r = .bool (below hi d))
theorem ok_is_below (D : Def1 K mg "is_below" s_is_below) (C1 : Cal P w K mg base CX0 1 "is_integer_from" ["thing", "low"] (SpIIF T K)) : Cal P w K mg base CX0 2 "is_below" ["thing", "limit"] (SpIB T K) := by
  refine cal_of D sc_is_below (fun _ _ _ _ _ _ us hl => match us, hl with | [_, _], _ => rfl) (fun vs H Q E h => h.1) (fun f cdv A outer s H vs Q E hr h => ?_)
  obtain ⟨_, R, m, ds, rfl, ok, hd, ⟨d, hi, rfl⟩, q⟩ := h
  obtain ⟨v1, v2, rfl, h1, h3⟩ := dqa2 hd
  cases h3
  refine ⟨_, pss_one (ps_ret (pe_and (pe_cal C1 hr (by decide) (by rfl) pass0 (pa_cons (pv 0) (pa_cons pe_int pa_nil))) (pe_one (pe_cmpR op_lt (pv 0) (pv 1) (nomark _))))), ?_⟩
  refine s_ret ok (ev_andV (p := fun b => b = intFrom 0 d) (q := fun b => ∃ i, d = .int i ∧ b = decide (i < hi)) ((ev_callD (ps := [(· = d), (· = .int 0)]) (eva_d (ev_dvar rfl h1) (eva_d ev_di eva_nil)) rfl fun ds h => ?_).imp fun v H' x hv => ?_) fun hp => ?_) fun v H1 x k r => ?_
  · obtain ⟨_, _, rfl, rfl, _, _, rfl, rfl, rfl⟩ := h
    exact ⟨_, _, rfl⟩
  · obtain ⟨r, hr, ds, ⟨_, _, rfl, rfl, _, _, rfl, rfl, rfl⟩, _, _, e, rfl⟩ := hv
    cases e
    exact ⟨_, dq_bl hr, rfl⟩
  · cases d with
    | int i =>
      cases h1
      exact ev_I0 (ev_ivar rfl) (ev_ivar rfl) fun i' j' H1 e1 e2 => ⟨_, rfl, i, rfl, by rw [e1, e2]⟩
    | _ => cases hp
  · obtain ⟨b, rfl, hb⟩ := r
    refine q _ H1 (.bool b) x k (.bl b) ⟨d, hi, rfl, ?_⟩
    rcases hb with ⟨rfl, e⟩ | ⟨e1, i, rfl, rfl⟩
    · cases d with
      | int i =>
        have e : false = decide (0 ≤ i) := e
        show PyData.bool false = .bool (decide (0 ≤ i) && decide (i < hi))
        rw [← e] <;> rfl
      | _ => rfl
    · have e1 : true = decide (0 ≤ i) := e1
      show PyData.bool (decide (i < hi)) = .bool (decide (0 ≤ i) && decide (i < hi))
      rw [← e1, Bool.true_and]
/-! ### is_none_or_below -/
theorem sc_is_none_or_below : FnScope ["thing", "limit"] ["thing", "limit"] (defScope s_is_none_or_below) := ⟨rfl, rfl, rfl, by decide +kernel, rfl, by decide +kernel, by decide +kernel⟩
abbrev SpINB (T : List (Addr × Str)) (K : PySem.W.Frag) : Sp := SpD T K 2 (fun ds => ∃ d hi, ds = [d, .int hi]) (fun ds r => ∃ d hi, ds = [d, .int hi] ∧ r = .bool (nonBelow hi d))
theorem ok_is_none_or_below (D : Def1 K mg "is_none_or_below" s_is_none_or_below) (C1 : Cal P w K mg base CX0 2 "is_below" ["thing", "limit"] (SpIB T K)) : Cal P w K mg base CX0 3 "is_none_or_below" ["thing", "limit"] (SpINB T K) := by
  refine cal_of D sc_is_none_or_below (fun _ _ _ _ _ _ us hl => match us, hl with | [_, _], _ => rfl) (fun vs H Q E h => h.1) (fun f cdv A outer s H vs Q E hr h => ?_)
  obtain ⟨_, R, m, ds, rfl, ok, hd, ⟨d, hi, rfl⟩, q⟩ := h
  obtain ⟨v1, v2, rfl, h1, h3⟩ := dqa2 hd
  cases h3
  refine ⟨_, pss_one (ps_ret (pe_or (pe_cmpR op_isN (pv 0) pe_non (nomark _)) (pe_one (pe_cal C1 hr (by decide) (by rfl) pass0 (pa_cons (pv 0) (pa_cons (pv 1) pa_nil)))))), ?_⟩
  refine s_ret ok (ev_orV (q := fun b => b = below hi d) (ev_isN (ev_dvar rfl h1)) fun hp => (ev_callD (ps := [(· = d), (· = .int hi)]) (eva_d (ev_dvar rfl h1) (eva_d (ev_dvar rfl (.int hi)) eva_nil)) rfl fun ds h => ?_).imp fun v H' x hv => ?_) fun v H1 x k r => ?_
  · obtain ⟨_, _, rfl, rfl, _, _, rfl, rfl, rfl⟩ := h
    exact ⟨_, _, rfl⟩
  · obtain ⟨r, hr, ds, ⟨_, _, rfl, rfl, _, _, rfl, rfl, rfl⟩, _, _, e, rfl⟩ := hv
    cases e
    exact ⟨_, dq_bl hr, rfl⟩
  · obtain ⟨b, rfl, hb⟩ := r
    refine q _ H1 (.bool b) x k (.bl b) ⟨d, hi, rfl, ?_⟩
    rcases hb with ⟨rfl, d1, rfl, e⟩ | ⟨⟨d1, rfl, e⟩, rfl⟩
    · cases d1 <;> first | rfl | cases e
    · cases d1 <;> first | rfl | cases e
/-! ### is_list -/
theorem sc_is_list : FnScope ["thing"] ["thing"] (defScope s_is_list) := ⟨rfl, rfl, rfl, by decide +kernel, rfl, by decide +kernel, by decide +kernel⟩
def isSeq : PyData → Bool
  | .list _ => true
  | .tuple _ => true
  | _ => false
abbrev SpIL (T : List (Addr × Str)) (K : PySem.W.Frag) : Sp := SpD T K 1 (fun ds => ∃ d, ds = [d]) (fun ds r => ∃ d, ds = [d] ∧ r = .bool (isSeq d))
theorem ok_is_list (D : Def1 K mg "is_list" s_is_list) (B : Bl mg) : Cal P w K mg base CX0 1 "is_list" ["thing"] (SpIL T K) := by
  refine cal_of D sc_is_list (fun _ _ _ _ _ _ us hl => match us, hl with | [_], _ => rfl) (fun vs H Q E h => h.1) (fun f cdv A outer s H vs Q E hr h => ?_)
  obtain ⟨_, R, m, ds, rfl, ok, hd, ⟨d, rfl⟩, q⟩ := h
  obtain ⟨v1, rfl, h1⟩ := dqa1 hd
  refine ⟨_, pss_one (ps_ret (pe_callB call_isiT (by rfl) B.isinstance (by decide +kernel) (pa_cons (pv 0) (pa_cons (pe_tup (pa_cons (pe_bltn (v := .ty "list") (by rfl) B.list (by decide +kernel) rfl) (pa_cons (pe_bltn (v := .ty "tuple") (by rfl) B.tuple (by decide +kernel) rfl) pa_nil))) pa_nil)))), ?_⟩
  refine s_ret ok (ev_isi2 (ev_dvar rfl h1) fun d _ => ⟨kit_list d, kit_tuple d⟩) fun v H1 x k r => ?_
  obtain ⟨b, rfl, d1, rfl, rfl⟩ := r
  refine q _ H1 _ x k (.bl _) ⟨_, rfl, ?_⟩
  rw [isT_list, isT_tuple]
  cases d1 <;> rfl
/-! ### check_number, check_counts -/
theorem sc_check_number : FnScope ["thing", "low"] ["thing", "low"] (defScope s_check_number) := ⟨rfl, rfl, rfl, by decide +kernel, rfl, by decide +kernel, by decide +kernel⟩
abbrev SpCN (T : List (Addr × Str)) (K : PySem.W.Frag) : Sp := SpD T K 2 (fun ds => ∃ i lo, ds = [.int i, .int lo] ∧ lo ≤ i) (fun ds r => r = .none)
theorem ok_check_number (D : Def1 K mg "check_number" s_check_number) (C1 : Cal P w K mg base CX0 1 "is_integer_from" ["thing", "low"] (SpIIF T K)) : Cal P w K mg base CX0 2 "check_number" ["thing", "low"] (SpCN T K) := by
  refine cal_of D sc_check_number (fun _ _ _ _ _ _ us hl => match us, hl with | [_, _], _ => rfl) (fun vs H Q E h => h.1) (fun f cdv A outer s H vs Q E hr h => ?_)
  obtain ⟨_, R, m, ds, rfl, ok, hd, ⟨i, lo, rfl, hlo⟩, q⟩ := h
  obtain ⟨v1, v2, rfl, h1, h3⟩ := dqa2 hd
  cases h3
  cases h1
  refine ⟨_, pss_one (ps_if (pt_not (pt_val (pe_cal C1 hr (by decide) (by rfl) pass0 (pa_cons (pv 0) (pa_cons (pv 1) pa_nil))))) (pss_one ps_never) pss_nil), ?_⟩
  refine s_if ok (evt_not (evt_B (p := fun b => b = true) ((ev_callD (ps := [(· = .int i), (· = .int lo)]) (eva_d (ev_dvar rfl (.int i)) (eva_d (ev_dvar rfl (.int lo)) eva_nil)) rfl fun ds h => ?_).imp fun v H' x hv => ?_))) (fun hp => ?_) (fun hp H1 x k => ?_)
  · obtain ⟨_, _, rfl, rfl, _, _, rfl, rfl, rfl⟩ := h
    exact ⟨_, _, rfl⟩
  · obtain ⟨r, hr, ds, ⟨_, _, rfl, rfl, _, _, rfl, rfl, rfl⟩, _, _, e, rfl⟩ := hv
    cases e
    exact ⟨_, dq_bl hr, decide_eq_true hlo⟩
  · cases hp
  · exact q .non H1 .none x k .non rfl
end
end LW

set_option Elab.async false
set_option linter.all false
set_option maxRecDepth 100000
set_option maxHeartbeats 4000000
namespace LW
open PySem PySem.Spec PyProof.Rows L2 LamX WE WLam
section
variable {P : Program} {w : World} {K : PySem.W.Frag} {mg : Str → Option Value} {base : Heap} {T : List (Addr × Str)}
/-! ### check_counts -/
theorem sc_check_counts : FnScope ["value_count", "forward", "backward"] ["value_count", "forward", "backward"] (defScope s_check_counts) := ⟨rfl, rfl, rfl, by decide +kernel, rfl, by decide +kernel, by decide +kernel⟩
abbrev SpCC (T : List (Addr × Str)) (K : PySem.W.Frag) : Sp := SpD T K 3 (fun ds => ∃ a b c : Int, ds = [.int a, .int b, .int c] ∧ 1 ≤ a ∧ 1 ≤ b ∧ 1 ≤ c) (fun ds r => r = .none)
theorem ev_check {R : Rs} {σ : L2.St} {H : Hp} {m i : Nat} {z : Int} (h : σ[i]? = some (some (.int z))) (hz : 1 ≤ z) : Ev R m m (tCall (SpCN R.T K) [] E0 (tCons (tVar i) (tCons (tC (.int 1)) tNil))) σ H (dP K R (· = .none)) :=
  (ev_callD (ps := [(· = .int z), (· = .int 1)]) (eva_d (ev_dvar h (.int z)) (eva_d ev_di eva_nil)) rfl fun ds h => by
    obtain ⟨_, _, rfl, rfl, _, _, rfl, rfl, rfl⟩ := h
    exact ⟨_, _, rfl, hz⟩).imp fun v H' x ⟨r, hr, ds, _, e⟩ => ⟨r, hr, e⟩
theorem ok_check_counts (D : Def1 K mg "check_counts" s_check_counts) (C1 : Cal P w K mg base CX0 2 "check_number" ["thing", "low"] (SpCN T K)) : Cal P w K mg base CX0 3 "check_counts" ["value_count", "forward", "backward"] (SpCC T K) := by
  refine cal_of D sc_check_counts (fun _ _ _ _ _ _ us hl => match us, hl with | [_, _, _], _ => rfl) (fun vs H Q E h => h.1) (fun f cdv A outer s H vs Q E hr h => ?_)
  obtain ⟨_, R, m, ds, rfl, ok, hd, ⟨a, b, c, rfl, ha, hb, hc⟩, q⟩ := h
  obtain ⟨v1, v2, v3, rfl, h1, h2, h3⟩ := dqa3 hd
  cases h1
  cases h2
  cases h3
  refine ⟨_, pss_cons (ps_expr (pe_cal C1 hr (by decide) (by rfl) pass0 (pa_cons (pv 0) (pa_cons pe_int pa_nil)))) (pss_cons (ps_expr (pe_cal C1 hr (by decide) (by rfl) pass0 (pa_cons (pv 1) (pa_cons pe_int pa_nil)))) (pss_one (ps_expr (pe_cal C1 hr (by decide) (by rfl) pass0 (pa_cons (pv 2) (pa_cons pe_int pa_nil)))))), ?_⟩
  refine q_drop ok (ev_check rfl ha) fun _ H1 x1 k1 _ => q_drop k1 (ev_check rfl hb) fun _ H2 x2 k2 _ => s_drop k2 (ev_check rfl hc) fun _ H3 x3 k3 _ => ?_
  exact q _ H3 .none (x1.trans (x2.trans x3)) k3 .non rfl
/-! ### state_count -/
theorem sc_state_count : FnScope ["sends"] ["sends"] (defScope s_state_count) := ⟨rfl, rfl, rfl, by decide +kernel, rfl, by decide +kernel, by decide +kernel⟩
def Seq (d : PyData) (ds : List PyData) : Prop := d = .tuple ds ∨ d = .list ds
abbrev SpSC (T : List (Addr × Str)) (K : PySem.W.Frag) : Sp := SpD T K 1 (fun es => ∃ d ds, es = [d] ∧ Seq d ds ∧ ds ≠ []) (fun es r => ∃ d ds, es = [d] ∧ Seq d ds ∧ r = .int (ds.length : Int))
theorem Seq.is {d : PyData} {ds : List PyData} (h : Seq d ds) : isSeq d = true := by rcases h with e | e <;> rw [e] <;> rfl
theorem ev_islist {R : Rs} {σ : L2.St} {H : Hp} {m i : Nat} {v : V} {d : PyData} (h : σ[i]? = some (some v)) (hd : Dq K R.M H v d) : Ev R m m (tCall (SpIL R.T K) [] E0 (tCons (tVar i) tNil)) σ H (bP R fun b => b = isSeq d) := by
  refine (ev_callD (ps := [(· = d)]) (eva_d (ev_dvar h hd) eva_nil) rfl fun ds h => ?_).imp fun v H' x hv => ?_
  · obtain ⟨_, _, rfl, rfl, rfl⟩ := h
    exact ⟨_, rfl⟩
  · obtain ⟨r, hr, ds, ⟨_, _, rfl, rfl, rfl⟩, _, e, rfl⟩ := hv
    cases e
    exact ⟨_, dq_bl hr, rfl⟩
theorem ok_state_count (D : Def1 K mg "state_count" s_state_count) (B : Bl mg) (C1 : Cal P w K mg base CX0 1 "is_list" ["thing"] (SpIL T K)) : Cal P w K mg base CX0 2 "state_count" ["sends"] (SpSC T K) := by
  refine cal_of D sc_state_count (fun _ _ _ _ _ _ us hl => match us, hl with | [_], _ => rfl) (fun vs H Q E h => h.1) (fun f cdv A outer s H vs Q E hr h => ?_)
  obtain ⟨_, R, m, es, rfl, ok, hd, ⟨d, ds, rfl, hs, hne⟩, q⟩ := h
  obtain ⟨v1, rfl, h1⟩ := dqa1 hd
  refine ⟨_, pss_cons (ps_if (PW.pt (pw_or (pt_not (pt_val (pe_cal C1 hr (by decide) (by rfl) pass0 (pa_cons (pv 0) pa_nil)))) (pw_or1 (pt_cmpR op_eq (pe_callB call_len_seq (by rfl) B.len PySem.boot_len (pa_cons (pv 0) pa_nil)) pe_int (nomark _))))) (pss_one ps_never) pss_nil)
    (pss_one (ps_ret (pe_callB call_len_seq (by rfl) B.len PySem.boot_len (pa_cons (pv 0) pa_nil)))), ?_⟩
  have hlen : ∀ {m : Nat} {H1 : Hp}, Xt R H H1 → Ev R m m (tCB (fun xs H Q => ∃ p ys, xs = [.ref p] ∧ (SqL K H p ys ∨ SqT K H p ys) ∧ Q (.int ys.length) H) (tCons (tVar 0) tNil)) (L2.start ["sends"] [v1]) H1 (iP R fun z => z = (ds.length : Int)) := fun {m H1} x =>
    (ev_len (ev_dvar rfl (h1.mono x)) fun e he => ⟨ds, by rw [he]; exact hs⟩).imp fun v H' x ⟨z, e, d', ds', e1, e2, e3⟩ => by
      subst e1
      have : ds' = ds := by
        rcases hs with h | h <;> rcases e2 with g | g <;> rw [h] at g <;> cases g <;> rfl
      rw [this] at e3
      exact ⟨z, e, e3⟩
  refine q_if ok (evt_or (evt_not (evt_B (ev_islist rfl h1))) fun _ => evt_test (ev_eqI (hlen (.refl _)) ev_int)) (fun hp => ?_) (fun hp H1 x k => ?_)
  · exfalso
    rcases hp with ⟨_, e⟩ | ⟨_, i, j, e1, e2, e3⟩
    · rw [hs.is] at e
      cases e
    · subst e1 e2
      have e4 := of_decide_eq_true e3.symm
      cases ds with
      | nil => exact hne rfl
      | cons a b =>
        rw [List.length_cons] at e4
        omega
  · refine s_ret k (hlen x) fun v H2 x2 k2 r => ?_
    obtain ⟨z, rfl, rfl⟩ := r
    exact q _ H2 _ (x.trans x2) k2 (.int _) ⟨d, ds, rfl, hs, rfl⟩
/-! ### are_states, are_gifts -/
theorem sc_are_states : FnScope ["item", "many", "size", "state"] ["item", "many", "size"] (defScope s_are_states) := ⟨rfl, rfl, rfl, by decide +kernel, rfl, by decide +kernel, by decide +kernel⟩
abbrev SpAS (T : List (Addr × Str)) (K : PySem.W.Frag) : Sp := SpD T K 3 (fun es => ∃ d many size, es = [d, .int many, .int size] ∧ ∀ ds, d = .tuple ds → ds.length ≤ 1000) (fun es r => ∃ d many size, es = [d, .int many, .int size] ∧ r = .bool (isStates many size d))
theorem bools_all {f : PyData → Bool} {ds : List PyData} {bs : List Bool} (hl : (bs.map PyData.bool).length = ds.length) (h : ∀ (i : Nat) (d e : PyData), ds[i]? = some d → (bs.map PyData.bool)[i]? = some e → e = .bool (f d)) : bs.all id = ds.all f := by
  induction ds generalizing bs with
  | nil =>
    rw [List.length_map] at hl
    rw [List.eq_nil_of_length_eq_zero hl] <;> rfl
  | cons d ds ih =>
    cases bs with
    | nil => simp at hl
    | cons b bs =>
      have e0 := h 0 d (.bool b) rfl rfl
      injection e0 with e0
      rw [List.all_cons, List.all_cons, ih (by simpa using hl) fun i d e h1 h2 => h (i + 1) d e h1 h2]
      show (b && _) = _
      rw [e0]
theorem ok_are_states (D : Def1 K mg "are_states" s_are_states) (B : Bl mg) (C1 : Cal P w K mg base CX0 2 "is_below" ["thing", "limit"] (SpIB T K)) : Cal P w K mg base CX0 3 "are_states" ["item", "many", "size"] (SpAS T K) := by
  refine cal_of D sc_are_states (fun _ _ _ _ _ _ us hl => match us, hl with | [_, _, _], _ => rfl) (fun vs H Q E h => h.1) (fun f cdv A outer s H vs Q E hr h => ?_)
  obtain ⟨_, R, m, es, rfl, ok, hd, ⟨d, many, size, rfl, hlen⟩, q⟩ := h
  obtain ⟨v1, v2, v3, rfl, h1, h2, h3⟩ := dqa3 hd
  cases h2
  cases h3
  refine ⟨_, pss_one (ps_ret (pe_and (pe_callB call_isi (by rfl) B.isinstance (by decide +kernel) (pa_cons (pv 0) (pa_cons (pe_bltn (v := .ty "tuple") (by rfl) B.tuple (by decide +kernel) rfl) pa_nil)))
    (pe_and (pe_cmpR op_eq (pe_callB call_len_seq (by rfl) B.len PySem.boot_len (pa_cons (pv 0) pa_nil)) (pv 1) (nomark _))
      (pe_one (pe_callB (cr_all rfl) (by rfl) B.all (by decide +kernel) (pa_cons (pe_lc (own := [("state", 3)]) (g := gName 3) (tt := tYes) rfl sc_are_states.nd (pi_tup (pv 0)) (blkOk_by (N := ["item", "many", "size", "state"]) (sc := defScope s_are_states) (by decide +kernel))
        (fun _ _ _ _ _ => pg_name (i := 3) sc_are_states.nd rfl (Or.inl rfl)) (fun _ _ _ _ _ => pts_nil) (fun _ _ _ _ _ => pe_cal C1 hr (by decide) (by rfl) pass0 (pa_cons (pv 3) (pa_cons (pv 2) pa_nil)))) pa_nil)))))), ?_⟩
  refine s_ret ok (ev_andV (p := fun b => b = isT "tuple" d) ((ev_isi (ev_dvar rfl h1) fun d _ => kit_tuple d).imp fun v H' x ⟨b, e, d', e1, e2⟩ => ⟨b, e, by rw [e2, e1]⟩) fun hp => ev_andV (p := fun b => ∃ ds, d = .tuple ds ∧ b = decide ((ds.length : Int) = many)) (q := fun b => ∃ ds, d = .tuple ds ∧ b = ds.all (below size)) ?_ fun hq => ?_) fun v H1 x k r => ?_
  · obtain ⟨ds, rfl⟩ : ∃ ds, d = .tuple ds := by
      rw [isT_tuple] at hp
      cases d <;> first | exact ⟨_, rfl⟩ | cases hp
    refine (ev_eqI (ev_len (ev_dvar rfl h1) fun e he => ⟨ds, .inl he⟩) (ev_ivar rfl)).imp fun v H' x ⟨b, e, i, j, ⟨d', ds', e1, e2, e3⟩, e4, e5⟩ => ?_
    subst e1
    rcases e2 with e2 | e2
    · cases e2
      exact ⟨b, e, ds, rfl, by rw [e5, e3, e4]⟩
    · cases e2
  · obtain ⟨ds, rfl, _⟩ := hq
    refine (ev_all (p := fun r => ∃ es : List PyData, r = .list es ∧ es.length = ds.length ∧ ∀ (i : Nat) (d e : PyData), ds[i]? = some d → es[i]? = some e → e = .bool (below size d)) ((ev_lcT (k := 1000) (c := 0) (pe := fun d e => e = .bool (below size d)) (ev_dvar rfl h1) (fun e he => ⟨ds, he, hlen ds rfl, by have := hlen ds rfl; omega⟩) (fun _ => rfl) (fun d e he => by rw [he]; rfl) (fun ds' i d' v' H2 _ hi' x2 hd' => ?_)).imp fun v H' x ⟨r, hr, ds', es, e1, e2, e3, e4⟩ => ?_) (fun r ⟨es, e1, e2, e3⟩ => ⟨es, e1, fun e he => ?_⟩)).imp fun v H' x ⟨b, e, bs, ⟨es, e1, e2, e3⟩, e4⟩ => ?_
    · intro q
      refine (ev_callD (ps := [(· = d'), (· = .int size)]) (eva_d (ev_dvar rfl hd') (eva_d (ev_dvar rfl (.int size)) eva_nil)) rfl fun ds h => ?_).imp fun v H' x hv => ?_
      · obtain ⟨_, _, rfl, rfl, _, _, rfl, rfl, rfl⟩ := h
        exact ⟨_, _, rfl⟩
      · obtain ⟨r, hr, ds, ⟨_, _, rfl, rfl, _, _, rfl, rfl, rfl⟩, _, _, e, rfl⟩ := hv
        cases e
        exact ⟨_, hr, rfl⟩
    · cases e1
      exact ⟨r, hr, es, e2, e3, e4⟩
    · obtain ⟨i, hi⟩ := List.mem_iff_getElem?.mp he
      have hlt : i < ds.length := by
        rw [← e2]
        exact (List.getElem?_eq_some_iff.mp hi).1
      exact ⟨_, e3 i _ e (List.getElem?_eq_getElem hlt) hi⟩
    · cases e1
      exact ⟨b, e, ds, rfl, by rw [e4]; exact bools_all e2 e3⟩
  · obtain ⟨b, rfl, hb⟩ := r
    refine q _ H1 (.bool b) x k (.bl b) ⟨d, many, size, rfl, ?_⟩
    rw [isT_tuple] at hb
    rcases hb with ⟨rfl, e⟩ | ⟨_, ⟨rfl, ds, rfl, e⟩ | ⟨⟨ds, rfl, e⟩, ds', e2, rfl⟩⟩
    · cases d <;> first | rfl | cases e
    · show PyData.bool false = .bool (decide ((ds.length : Int) = many) && ds.all (below size))
      rw [← e] <;> rfl
    · cases e2
      show PyData.bool (ds.all (below size)) = .bool (decide ((ds.length : Int) = many) && ds.all (below size))
      rw [← e, Bool.true_and]
end
end LW

set_option Elab.async false
set_option linter.all false
set_option maxRecDepth 100000
set_option maxHeartbeats 4000000
namespace LW
open PySem PySem.Spec PyProof.Rows L2 LamX WE WLam
section
variable {P : Program} {w : World} {K : PySem.W.Frag} {mg : Str → Option Value} {base : Heap} {T : List (Addr × Str)}
/-! ### are_gifts -/
theorem sc_are_gifts : FnScope ["item", "many", "value_count", "value"] ["item", "many", "value_count"] (defScope s_are_gifts) := ⟨rfl, rfl, rfl, by decide +kernel, rfl, by decide +kernel, by decide +kernel⟩
abbrev SpAG (T : List (Addr × Str)) (K : PySem.W.Frag) : Sp := SpD T K 3 (fun es => ∃ d many size, es = [d, .int many, .int size] ∧ ∀ ds, d = .tuple ds → ds.length ≤ 1000) (fun es r => ∃ d many size, es = [d, .int many, .int size] ∧ r = .bool (isGifts many size d))
theorem ok_are_gifts (D : Def1 K mg "are_gifts" s_are_gifts) (B : Bl mg) (C1 : Cal P w K mg base CX0 3 "is_none_or_below" ["thing", "limit"] (SpINB T K)) : Cal P w K mg base CX0 4 "are_gifts" ["item", "many", "value_count"] (SpAG T K) := by
  refine cal_of D sc_are_gifts (fun _ _ _ _ _ _ us hl => match us, hl with | [_, _, _], _ => rfl) (fun vs H Q E h => h.1) (fun f cdv A outer s H vs Q E hr h => ?_)
  obtain ⟨_, R, m, es, rfl, ok, hd, ⟨d, many, size, rfl, hlen⟩, q⟩ := h
  obtain ⟨v1, v2, v3, rfl, h1, h2, h3⟩ := dqa3 hd
  cases h2
  cases h3
  refine ⟨_, pss_cons (ps_if (PW.pt (pw_or (pt_not (pt_val (pe_callB call_isi (by rfl) B.isinstance (by decide +kernel) (pa_cons (pv 0) (pa_cons (pe_bltn (v := .ty "tuple") (by rfl) B.tuple (by decide +kernel) rfl) pa_nil)))))
      (pw_or1 (pt_cmpR op_ne (pe_callB call_len_seq (by rfl) B.len PySem.boot_len (pa_cons (pv 0) pa_nil)) (pv 1) (nomark _))))) (pss_one (ps_ret pe_bl)) pss_nil)
    (pss_one (ps_ret (pe_callB (cr_all rfl) (by rfl) B.all (by decide +kernel) (pa_cons (pe_lc (own := [("value", 3)]) (g := gName 3) (tt := tYes) rfl sc_are_gifts.nd (pi_tup (pv 0)) (blkOk_by (N := ["item", "many", "value_count", "value"]) (sc := defScope s_are_gifts) (by decide +kernel))
        (fun _ _ _ _ _ => pg_name (i := 3) sc_are_gifts.nd rfl (Or.inl rfl)) (fun _ _ _ _ _ => pts_nil) (fun _ _ _ _ _ => pe_cal C1 hr (by decide) (by rfl) pass0 (pa_cons (pv 3) (pa_cons (pv 2) pa_nil)))) pa_nil)))), ?_⟩
  refine q_if ok (evt_or (evt_not (evt_B (p := fun b => b = isT "tuple" d) ((ev_isi (ev_dvar rfl h1) fun d _ => kit_tuple d).imp fun v H' x ⟨b, e, d', e1, e2⟩ => ⟨b, e, by rw [e2, e1]⟩))) (q := fun b => ∃ ds, d = .tuple ds ∧ b = !decide ((ds.length : Int) = many)) fun hp => evt_test ?_) (fun hp H1 x k => ?_) (fun hp H1 x k => ?_)
  · obtain ⟨ds, rfl⟩ : ∃ ds, d = .tuple ds := by
      rw [isT_tuple] at hp
      cases d <;> first | exact ⟨_, rfl⟩ | cases hp
    refine (ev_neI (ev_len (ev_dvar rfl h1) fun e he => ⟨ds, .inl he⟩) (ev_ivar rfl)).imp fun v H' x ⟨b, e, i, j, ⟨d', ds', e1, e2, e3⟩, e4, e5⟩ => ?_
    subst e1
    rcases e2 with e2 | e2
    · cases e2
      exact ⟨b, e, ds, rfl, by rw [e5, e3, e4]⟩
    · cases e2
  · refine s_ret k (ev_db (K := K)) fun v H2 x2 k2 r => ?_
    obtain ⟨r, hr, rfl⟩ := r
    refine q _ H2 _ (x.trans x2) k2 hr ⟨d, many, size, rfl, ?_⟩
    rw [isT_tuple] at hp
    rcases hp with ⟨_, e⟩ | ⟨_, ds, rfl, e⟩
    · cases d <;> first | rfl | cases e
    · have e2 : decide ((ds.length : Int) = many) = false := by
        cases z : decide ((ds.length : Int) = many) with
        | false => rfl
        | true =>
          rw [z] at e
          cases e
      show PyData.bool false = .bool (decide ((ds.length : Int) = many) && ds.all (nonBelow size))
      rw [e2] <;> rfl
  · obtain ⟨e0, ds, rfl, e1⟩ : isT "tuple" d = true ∧ ∃ ds, d = .tuple ds ∧ false = !decide ((ds.length : Int) = many) := by
      rcases hp with ⟨z, _⟩ | ⟨z, z2⟩
      · cases z
      · exact ⟨z.symm, z2⟩
    have e2 : decide ((ds.length : Int) = many) = true := by
      cases z : decide ((ds.length : Int) = many) with
      | true => rfl
      | false =>
        rw [z] at e1
        cases e1
    refine s_ret k (ev_all (p := fun r => ∃ es : List PyData, r = .list es ∧ es.length = ds.length ∧ ∀ (i : Nat) (d e : PyData), ds[i]? = some d → es[i]? = some e → e = .bool (nonBelow size d)) ((ev_lcT (k := 1000) (c := 0) (pe := fun d e => e = .bool (nonBelow size d)) (ev_dvar rfl (h1.mono x)) (fun e he => ⟨ds, he, hlen ds rfl, by have := hlen ds rfl; omega⟩) (fun _ => rfl) (fun d e he => by rw [he]; rfl) (fun ds' i d' v' H2 _ hi' x2 hd' => ?_)).imp fun v H' x ⟨r, hr, ds', es, e1, e2, e3, e4⟩ => ?_) (fun r ⟨es, e1, e2, e3⟩ => ⟨es, e1, fun e he => ?_⟩)) fun v H2 x2 k2 r => ?_
    · intro q
      refine (ev_callD (ps := [(· = d'), (· = .int size)]) (eva_d (ev_dvar rfl hd') (eva_d (ev_dvar rfl (.int size)) eva_nil)) rfl fun ds h => ?_).imp fun v H' x hv => ?_
      · obtain ⟨_, _, rfl, rfl, _, _, rfl, rfl, rfl⟩ := h
        exact ⟨_, _, rfl⟩
      · obtain ⟨r, hr, ds, ⟨_, _, rfl, rfl, _, _, rfl, rfl, rfl⟩, _, _, e, rfl⟩ := hv
        cases e
        exact ⟨_, hr, rfl⟩
    · cases e1
      exact ⟨r, hr, es, e2, e3, e4⟩
    · obtain ⟨i, hi⟩ := List.mem_iff_getElem?.mp he
      have hlt : i < ds.length := by
        rw [← e2]
        exact (List.getElem?_eq_some_iff.mp hi).1
      exact ⟨_, e3 i _ e (List.getElem?_eq_getElem hlt) hi⟩
    · obtain ⟨b, rfl, bs, ⟨es, z1, z2, z3⟩, z4⟩ := r
      cases z1
      refine q _ H2 _ (x.trans x2) k2 (.bl _) ⟨_, many, size, rfl, ?_⟩
      show PyData.bool b = .bool (decide ((ds.length : Int) = many) && ds.all (nonBelow size))
      rw [z4, bools_all z2 z3, e2, Bool.true_and]
/-! ### checked_table: over what a lambda answers -/
theorem sc_checked_table : FnScope ["name", "table", "size", "fits", "row", "item"] ["name", "table", "size", "fits"] (defScope s_checked_table) := ⟨rfl, rfl, rfl, by decide +kernel, rfl, by decide +kernel, by decide +kernel⟩
/-- the lambda answers True at each item -/
def TTc (T : List (Addr × Str)) (K : PySem.W.Frag) : List V → (List V → Hp → VK → Prop) → Hp → VK → XK → Prop := fun vs sl H Q _ => ∃ (R : Rs) (m : Nat) (nm tb : V) (d : PyData) (its : List PyData), R.T = T ∧ vs = [nm, tb, .int (its.length : Int)] ∧ Ok R m H ∧ Dq K R.M H tb d ∧ Seq d its ∧
  (∀ it ∈ its, ∀ v H1, Xt R H H1 → Ok R m H1 → Dq K R.M H1 v it → ∀ Q' : VK, (∀ H2, Xt R H1 H2 → Ok R m H2 → Q' (.bl true) H2) → sl [v] H1 Q') ∧ ∀ v H', Xt R H H' → Ok R m H' → Dq K R.M H' v (.tuple its) → Q v H'
theorem gives_checked_table {g : Addr} {cdg : Value} {q0 : Str} {k : Nat} (B : Bl mg) (C1 : Cal P w K mg base CX0 1 "is_list" ["thing"] (SpIL T K)) : GivesL P w K mg base CX0 ["name", "table", "size", "fits", "row", "item"] "checked_table" (defScope s_checked_table) g cdg (defBody s_checked_table) 3 "fits" q0 1 (k + 1) (TTc T K) := by
  intro A outer s H vs f c' Q E sl hr act hc h
  obtain ⟨R, m, nm, tb, d, its, rfl, rfl, ok, hd, hs, hf, q⟩ := h
  refine ⟨_, PSs.nox (pss_cons (ps_if (PW.pt (pw_or (pt_not (pt_val (pe_cal C1 hr (by omega) (by rfl) pass0 (pa_cons (pv 1) pa_nil)))) (pw_or1 (pt_cmpR op_ne (pe_callB call_len_seq (by rfl) B.len PySem.boot_len (pa_cons (pv 1) pa_nil)) (pv 2) (nomark _))))) (pss_one ps_never) pss_nil)
    (pss_cons (ps_for PassesOwn.never rfl (WEnum.pi_enumA (by rfl) B.enumerate (pa_cons (pv 1) pa_nil)) (pg_tup rfl (pgs_cons (pg_name (i := 4) sc_checked_table.nd rfl (.inl rfl)) (pgs_cons (pg_name (i := 5) sc_checked_table.nd rfl (.inl rfl)) pgs_nil)))
        (pss_one (ps_if (pt_not (pt_val (act (pa_cons (pv 5) pa_nil) (fun _ => rfl) (fun _ => rfl)))) (pss_one ps_never) pss_nil)))
      (pss_one (ps_ret (pe_callTy call_tuple_of (by rfl) B.tuple (by decide +kernel) (pa_cons (pv 1) pa_nil)))))), ?_⟩
  refine q_if ok (evt_or (evt_not (evt_B (ev_islist rfl hd))) fun _ => evt_test (ev_neI (ev_len (ev_dvar rfl hd) fun e he => ⟨its, by rw [he]; exact hs⟩) (ev_ivar rfl))) (fun hp => ?_) (fun hp H1 x1 k1 => ?_)
  · exfalso
    rcases hp with ⟨_, e⟩ | ⟨_, i, j, ⟨d', ds', e1, e2, e3⟩, e4, e5⟩
    · rw [hs.is] at e
      cases e
    · subst e1 e3 e4
      have e6 : ds' = its := by
        rcases hs with h | h <;> rcases e2 with g | g <;> rw [h] at g <;> cases g <;> rfl
      rw [e6, decide_eq_true rfl] at e5
      cases e5
  · refine q_enumA k1 (ev_dvar rfl (hd.mono x1)) (fun e he => ⟨its, by rw [he]; exact hs⟩) fun ds H2 hds x2 k2 => ?_
    have e6 : ds = its := by
      rcases hs with h | h <;> rcases hds with g | g <;> rw [h] at g <;> cases g <;> rfl
    subst e6
    have x12 := x1.trans x2
    have hc2 : ∀ {H'}, Xt R H H' → H' c' = some (CodeO c' q0) := fun {H'} x => x.keep c' _ hc (fun z => by
      obtain ⟨o, h, hm⟩ := ok.ml c' z
      rw [hc] at h
      unfold CodeO at h
      cases h
      rcases hm with ⟨xs, e⟩ | ⟨C, dx, fs, e⟩ | ⟨kvs, e⟩ <;> cases e) (fun _ z => by unfold CodeO at z; cases z)
    refine ⟨fun i σ' H' => ∃ y4 y5, σ' = [some nm, some tb, some (.int (ds.length : Int)), some (.ref f), y4, y5] ∧ Xt R H2 H' ∧ Ok R m H', ⟨none, none, rfl, .refl _, k2⟩, fun i σ' H' ⟨_, _, _, x, _⟩ => x, fun i it v σ' H' U hi ⟨y4, y5, e, x3, k3⟩ hU hv => ?_, fun σ' H' ⟨y4, y5, e, x3, k3⟩ => ?_⟩
    · subst e
      have xn : Xt R H' (upd H' U (.tup [.int (i : Nat), v])) := .new hU
      refine ⟨U, [.int (i : Nat), v], rfl, .inl (.inl upd_same), rfl, .int (i : Nat), [v], rfl, v, [], rfl, rfl, ?_⟩
      refine ⟨rfl, v, rfl, rfl, hc2 (x12.trans (x3.trans xn)), hf it (List.mem_of_getElem? hi) v _ (x12.trans (x3.trans xn)) (k3.new hU) (hv.mono xn) _ fun H4 x4 k4 => ?_⟩
      refine ⟨true, rfl, ?_⟩
      refine iteF ?_
      exact ⟨_, _, rfl, (x3.trans xn).trans x4, k4⟩
    · subst e
      refine s_ret k3 (ev_tupleOf (ev_dvar rfl (hd.mono (x12.trans x3))) fun e he => ⟨ds, by rw [he]; exact hs⟩) fun v H4 x4 k4 r => ?_
      obtain ⟨r, hr, ds', e7, rfl⟩ := r
      have e8 : ds' = ds := by
        rcases hs with h | h <;> rcases e7 with g | g <;> rw [h] at g <;> cases g <;> rfl
      subst e8
      exact q v H4 ((x12.trans x3).trans x4) k4 hr
end
end LW

set_option Elab.async false
set_option linter.all false
set_option maxRecDepth 100000
set_option maxHeartbeats 4000000
namespace LW
open PySem PySem.Spec PyProof.Rows L2 LamX NdefX WE WLam
/-- a def that makes lambdas: its code object c, its table Q -/
structure DefL (K : PySem.W.Frag) (mg : Str → Option Value) (base : Heap) (T : List (Addr × Str)) (x : Str) (st : Stmt) (c Pt : Addr) : Prop where
  ex : ∃ (f : Addr) (fd : FuncData), FunD K x x (defArgs st) (defBody st) (defScope st) [] [] f fd ∧ mg x = some (.ref f) ∧ fd.code = .ref c
  tab : TabB base mg c Pt
  mem : (Pt, x ++ ".<locals>." ++ "<lambda>") ∈ T
  one : ∀ p ∈ T, p.1 = Pt → p.2 = x ++ ".<locals>." ++ "<lambda>"
section
variable {P : Program} {w : World} {K : PySem.W.Frag} {mg : Str → Option Value} {base : Heap} {T : List (Addr × Str)} {x : Str} {st : Stmt} {N ps : List Str} {k : Nat} {sp : Sp} {c Pt : Addr}
theorem cal_ofL (D : DefL K mg base T x st c Pt) (S : FnScope N ps (defScope st))
    (hb : ∀ (kV doc pm : Value) (an : Option Addr) (cdv ct : Value) (us : List Value), us.length = ps.length → bindArgs (PySem.W.fnOf x x (defArgs st) (defBody st) (defScope st) .none kV doc pm an cdv ct) ⟨us, []⟩ = pure (ps.zip us))
    (len : ∀ vs H Q E, sp vs H Q E → vs.length = ps.length)
    (hbody : ∀ (f : Addr) (A : Around) (outer : List Env) (s : Shared) (H : Hp) (vs : List V) (Q : VK) (E : XK), Room k (A.deeper (envOfC x (defScope st) s.heap.objs.size f (.ref c))) → sp vs H Q E →
      ∃ t, PSs (cxOf CX0 P w K mg base N x (defScope st) f (.ref c) A outer s H E).nox (defBody st) t ∧ t { nx := fun _ H' => Q .non H', rt := Q } (L2.start N vs) H) : Cal P w K mg base CX0 (k + 1) x ps sp := by
  obtain ⟨f, fd, F, g, hc⟩ := D.ex
  refine ⟨f, fd, g, F.kp, ?_, F.bindsN hb⟩
  obtain ⟨oc, od, dV, kV, doc, pm, an, cdv, ct, osl, rfl, lk, hcd, _, _⟩ := F.ex
  obtain rfl : cdv = .ref c := hc
  refine fn_of lk hcd S len fun A outer s H vs Q E hr hsp => ?_
  obtain ⟨t, h, q⟩ := hbody f A outer s H vs Q E hr hsp
  exact ⟨t, h.nox, q⟩
end
theorem xt_ext {R : Rs} {m : Nat} {H H' : Hp} (k : Ok R m H) (e : ExtN H H') (gone : ∀ b, H' b = none → H b = none) : Xt R H H' :=
  ⟨fun b o h _ n => e b o h n, fun b xs h => e b _ h (fun _ z => nomatch z), fun b o u h => e b _ h (fun _ z => nomatch z), gone⟩
theorem ok_ext {R : Rs} {m : Nat} {H H' : Hp} (k : Ok R m H) (e : ExtN H H') (t : Tabs R.T H') : Ok R m H' := by
  have hb : ∀ b, R.M b → H' b = H b := fun b hm => by
    obtain ⟨o, h, hm⟩ := k.ml b hm
    rw [h]
    exact e b _ h (fun ps z => by
      subst z
      rcases hm with ⟨xs, e⟩ | ⟨C, dx, fs, e⟩ | ⟨kvs, e⟩ <;> cases e)
  exact ⟨t, fun b hm => by rw [hb b hm]; exact k.ml b hm, R.loc _ _ _ hb k.g⟩
section
variable {X : Cx} {T : List (Addr × Str)} {c Pt : Addr} {k : Nat} {N fr : List Str} {js : List Nat} {params : Arguments} {body : Expr} {scope : Scope} {tb t1 t2 t3 : TE} {p lpos pos : Pos} {e1 e2 e3 : Expr} {ps : List Str}
/-- checked_table(e1, e2, e3, lambda item: ..) -/
theorem pe_ct (D : Def1 X.K X.mg "checked_table" s_checked_table) (B : Bl X.mg) (C1 : Cal X.prog X.w X.K X.mg X.base CX0 1 "is_list" ["thing"] (SpIL T X.K)) (hg : Gl X "checked_table")
    (TB : TabB X.base X.mg c Pt) (hcode : X.env.code = .ref c) (hmT : (Pt, X.env.qual ++ "<lambda>") ∈ T) (hu : ∀ p ∈ T, p.1 = Pt → p.2 = X.env.qual ++ "<lambda>") (hr : Room (k + 2) X.A) (S : NScope N ["item"] fr scope) {sc : Scope} (hsc : X.env.scope = sc) (hfree : ndefB sc scope fr = true)
    (hjs : js.map (fun j => X.N[j]?) = fr.map some) (hdef : defaultsOf params X.env = ([], []))
    (hbind : ∀ (q : Str) (cl : List (Str × Addr)) (pm cv ctv : Value) (us : List Value), us.length = 1 → bindArgs (PySem.W.kla_fn "<lambda>" q params body scope cl pm cv ctv) ⟨us, []⟩ = pure ((["item"] : List Str).zip us))
    (h1 : PE X e1 t1) (h2 : PE X e2 t2) (h3 : PE X e3 t3)
    (hbody : ∀ (A : Around) (outer : List Env) (s : Shared) (H : Hp) (f c' : Addr), Room k (A.deeper (envF ⟨"<lambda>", X.env.qual ++ "<lambda>", params, [], scope, cloFrom X.env.cells scope.names [], c'⟩ f s.heap.objs.size)) →
      PE (ncx L2.CX0 X.prog X.w X.K X.mg X.base N ⟨"<lambda>", X.env.qual ++ "<lambda>", params, [], scope, cloFrom X.env.cells scope.names [], c'⟩ f A outer s H L2.E0) body tb)
    (hst : starEach [e1, e2, e3, .Lambda params body scope lpos] X.env = [(false, eval e1 X.env), (false, eval e2 X.env), (false, eval e3 X.env), (false, eval (.Lambda params body scope lpos) X.env)] := by rfl)
    (hs1 : starEach [e1, e2, e3, .Lambda params body scope lpos] X.env = (false, eval e1 X.env) :: starEach [e2, e3, .Lambda params body scope lpos] X.env := by rfl)
    (hpl : (backTo pos (starEach [e2, e3, .Lambda params body scope lpos] X.env)).any (·.1) = false := by rfl) :
    PE X (.Call (.Name "checked_table" p) [e1, e2, e3, .Lambda params body scope lpos] [] pos) (tLamC T 3 N js (TTc T X.K) E0 (tCons t1 (tCons t2 (tCons t3 tNil))) tb) := by
  obtain ⟨f, fd, F, g⟩ := D.ex
  have hbn := F.bindsN (ps := ["name", "table", "size", "fits"]) fun _ _ _ _ _ _ us hl => match us, hl with | [_, _, _, _], _ => rfl
  obtain ⟨oc, od, dV, kV, doc, pm, an, cdv, ct, osl, rfl, lk, hcd, hdv, _⟩ := F.ex
  exact pe_lamc (k := k) (Sg := sc_checked_table) (i := 3) (a := "fits") hg g F.kp lk hcd hbn rfl rfl (.inl rfl) (gives_checked_table B C1) pass0 TB hcode hmT hu hr S (by rw [hsc]; exact ndef_free hfree) (ndef_fr hfree) hjs hdef hbind h1 h2 h3 hbody (by decide) (by decide) (by decide) hst hs1 hpl
end
section
variable {P : Program} {w : World} {K : PySem.W.Frag} {mg : Str → Option Value} {base : Heap} {T : List (Addr × Str)} {c Pt : Addr}
/-! ### message_table -/
theorem sc_message_table : FnScope ["table", "size", "messages"] ["table", "size", "messages"] (defScope s_message_table) := ⟨rfl, rfl, rfl, by decide +kernel, rfl, by decide +kernel, by decide +kernel⟩
abbrev SpMT (T : List (Addr × Str)) (K : PySem.W.Frag) : Sp := SpD T K 3 (fun es => ∃ d its n, es = [d, .int (its.length : Int), .int n] ∧ Seq d its ∧ ∀ it ∈ its, nonBelow n it = true) (fun es r => ∃ d its n, es = [d, .int (its.length : Int), .int n] ∧ Seq d its ∧ r = .tuple its)
theorem ok_message_table (D : DefL K mg base T "message_table" s_message_table c Pt) (D2 : Def1 K mg "checked_table" s_checked_table) (B : Bl mg) (C1 : Cal P w K mg base CX0 1 "is_list" ["thing"] (SpIL T K)) (C2 : Cal P w K mg base CX0 3 "is_none_or_below" ["thing", "limit"] (SpINB T K)) :
    Cal P w K mg base CX0 6 "message_table" ["table", "size", "messages"] (SpMT T K) := by
  refine cal_ofL D sc_message_table (fun _ _ _ _ _ _ us hl => match us, hl with | [_, _, _], _ => rfl) (fun vs H Q E h => h.1) (fun f A outer s H vs Q E hr h => ?_)
  obtain ⟨_, R, m, es, rfl, ok, hd, ⟨d, its, n, rfl, hs, hf⟩, q⟩ := h
  obtain ⟨v1, v2, v3, rfl, h1, h2, h3⟩ := dqa3 hd
  cases h2
  cases h3
  refine ⟨_, pss_one (ps_ret (pe_ct (k := 3) (N := ["item", "messages"]) (fr := ["messages"]) (js := [2]) D2 B C1 (by rfl) D.tab (by rfl) D.mem D.one hr (nscope_by (by decide +kernel)) (sc := defScope s_message_table) (by rfl) (by decide +kernel) (by rfl) (by rfl) (fun _ _ _ _ _ us hl => match us, hl with | [_], _ => rfl) pe_str (pv 0) (pv 1)
    (fun A outer s H f c' hr2 => pe_cal C2 hr2 (by decide) (by rfl) pass0 (pa_cons (pv 0) (pa_cons (pv 1) pa_nil))))), ?_⟩
  refine ⟨v1, rfl, _, rfl, rfl, ok.tab, fun H2 eN gone T2 => ?_⟩
  have x2 : Xt R H H2 := xt_ext ok eN gone
  have k2 : Ok R m H2 := ok_ext ok eN T2
  refine ⟨R, m, _, v1, d, its, rfl, rfl, k2, h1.mono x2, hs, ?_, fun v H3 x3 k3 hv => q v H3 _ (x2.trans x3) k3 hv ⟨d, its, n, rfl, hs, rfl⟩⟩
  intro d0 hit v H3 x3 k3 hv Q' hQ
  refine (ev_callD (ps := [(· = d0), (· = .int n)]) (eva_d (ev_dvar rfl hv) (eva_d (ev_dvar rfl (.int n)) eva_nil)) rfl fun ds h => ?_) H3 (.refl _) k3 Q' fun v H4 x4 k4 r => ?_
  · obtain ⟨_, _, rfl, rfl, _, _, rfl, rfl, rfl⟩ := h
    exact ⟨_, _, rfl⟩
  · obtain ⟨r, hr, ds, ⟨_, _, rfl, rfl, _, _, rfl, rfl, rfl⟩, _, _, e, rfl⟩ := r
    cases e
    rw [dq_bl hr, hf _ hit]
    exact hQ H4 x4 k4
end
end LW

set_option Elab.async false
set_option linter.all false
set_option maxRecDepth 100000
set_option maxHeartbeats 4000000
namespace LW
open PySem PySem.Spec PyProof.Rows L2 LamX NdefX WE WLam
section
variable {K : PySem.W.Frag} {R : Rs} {σ : L2.St} {H : Hp} {m : Nat} {t1 t2 t3 tb : TE} {d : PyData} {its : List PyData} {P1 : Rp R} {N : List Str} {js : List Nat}
theorem ev_ctab (h1 : Ev R m m t1 σ H P1) (h2 : Ev R m m t2 σ H (dP K R (· = d))) (h3 : Ev R m m t3 σ H (iP R (· = (its.length : Int)))) (hs : Seq d its)
    (hf : ∀ it ∈ its, ∀ v H1, Xt R H H1 → Dq K R.M H1 v it → Ev R m m tb (startF N [v] (js.map (slotAt σ))) H1 (bP R (· = true))) :
    Ev R m m (tLamC R.T 3 N js (TTc R.T K) E0 (tCons t1 (tCons t2 (tCons t3 tNil))) tb) σ H (dP K R (· = .tuple its)) := fun H1 x1 k1 Q q =>
  h1 H1 x1 k1 _ fun v1 H2 x2 k2 _ => h2 H2 (x1.trans x2) k2 _ fun v2 H3 x3 k3 ⟨d', hd, e⟩ => h3 H3 ((x1.trans x2).trans x3) k3 _ fun v3 H4 x4 k4 ⟨i, e3, e4⟩ => by
    subst e e3 e4
    refine ⟨rfl, k4.tab, fun H5 eN gone T5 => ?_⟩
    have x5 : Xt R H4 H5 := xt_ext k4 eN gone
    have k5 : Ok R m H5 := ok_ext k4 eN T5
    have x25 := x2.trans (x3.trans (x4.trans x5))
    refine ⟨R, m, v1, v2, _, its, rfl, rfl, k5, (hd.mono x4).mono x5, hs, ?_, fun v H6 x6 k6 hv => q v H6 (x25.trans x6) k6 ⟨_, hv, rfl⟩⟩
    intro d0 hit v H6 x6 k6 hv Q' hQ
    refine hf d0 hit v H6 ((x1.trans x25).trans x6) hv H6 (.refl _) k6 Q' fun u H7 x7 k7 ⟨b, e1, e2⟩ => ?_
    subst e1 e2
    exact hQ H7 x7 k7
end
section
variable {P : Program} {w : World} {K : PySem.W.Frag} {mg : Str → Option Value} {base : Heap} {T : List (Addr × Str)} {c Pt : Addr}
/-! ### state_table -/
theorem sc_state_table : FnScope ["name", "table", "size"] ["name", "table", "size"] (defScope s_state_table) := ⟨rfl, rfl, rfl, by decide +kernel, rfl, by decide +kernel, by decide +kernel⟩
abbrev SpST (T : List (Addr × Str)) (K : PySem.W.Frag) : Sp := SpD T K 3 (fun es => ∃ z d its, es = [.str z, d, .int (its.length : Int)] ∧ Seq d its ∧ ∀ it ∈ its, below its.length it = true) (fun es r => ∃ z d its, es = [.str z, d, .int (its.length : Int)] ∧ Seq d its ∧ r = .tuple its)
theorem ev_below {R : Rs} {σ : L2.St} {H : Hp} {m i j : Nat} {v : V} {d : PyData} {n : Int} {b : Bool} (h : σ[i]? = some (some v)) (hd : Dq K R.M H v d) (hj : σ[j]? = some (some (.int n))) (hb : below n d = b) : Ev R m m (tCall (SpIB R.T K) [] E0 (tCons (tVar i) (tCons (tVar j) tNil))) σ H (bP R (· = b)) := by
  refine (ev_callD (ps := [(· = d), (· = .int n)]) (eva_d (ev_dvar h hd) (eva_d (ev_dvar hj (.int n)) eva_nil)) rfl fun ds h => ?_).imp fun v H' x hv => ?_
  · obtain ⟨_, _, rfl, rfl, _, _, rfl, rfl, rfl⟩ := h
    exact ⟨_, _, rfl⟩
  · obtain ⟨r, hr, ds, ⟨_, _, rfl, rfl, _, _, rfl, rfl, rfl⟩, _, _, e, rfl⟩ := hv
    cases e
    exact ⟨_, dq_bl hr, hb⟩
theorem ev_states {R : Rs} {σ : L2.St} {H : Hp} {m i j l : Nat} {v : V} {d : PyData} {n z : Int} {b : Bool} (h : σ[i]? = some (some v)) (hd : Dq K R.M H v d) (hj : σ[j]? = some (some (.int n))) (hl : σ[l]? = some (some (.int z))) (hb : isStates n z d = b) (hz : ∀ ds, d = .tuple ds → ds.length ≤ 1000) :
    Ev R m m (tCall (SpAS R.T K) [] E0 (tCons (tVar i) (tCons (tVar j) (tCons (tVar l) tNil)))) σ H (bP R (· = b)) := by
  refine (ev_callD (ps := [(· = d), (· = .int n), (· = .int z)]) (eva_d (ev_dvar h hd) (eva_d (ev_dvar hj (.int n)) (eva_d (ev_dvar hl (.int z)) eva_nil))) rfl fun ds h => ?_).imp fun v H' x hv => ?_
  · obtain ⟨_, _, rfl, rfl, _, _, rfl, rfl, _, _, rfl, rfl, rfl⟩ := h
    exact ⟨_, _, _, rfl, hz⟩
  · obtain ⟨r, hr, ds, ⟨_, _, rfl, rfl, _, _, rfl, rfl, _, _, rfl, rfl, rfl⟩, _, _, _, e, rfl⟩ := hv
    cases e
    exact ⟨_, dq_bl hr, hb⟩
theorem ev_gifts {R : Rs} {σ : L2.St} {H : Hp} {m i j l : Nat} {v : V} {d : PyData} {n z : Int} {b : Bool} (h : σ[i]? = some (some v)) (hd : Dq K R.M H v d) (hj : σ[j]? = some (some (.int n))) (hl : σ[l]? = some (some (.int z))) (hb : isGifts n z d = b) (hz : ∀ ds, d = .tuple ds → ds.length ≤ 1000) :
    Ev R m m (tCall (SpAG R.T K) [] E0 (tCons (tVar i) (tCons (tVar j) (tCons (tVar l) tNil)))) σ H (bP R (· = b)) := by
  refine (ev_callD (ps := [(· = d), (· = .int n), (· = .int z)]) (eva_d (ev_dvar h hd) (eva_d (ev_dvar hj (.int n)) (eva_d (ev_dvar hl (.int z)) eva_nil))) rfl fun ds h => ?_).imp fun v H' x hv => ?_
  · obtain ⟨_, _, rfl, rfl, _, _, rfl, rfl, _, _, rfl, rfl, rfl⟩ := h
    exact ⟨_, _, _, rfl, hz⟩
  · obtain ⟨r, hr, ds, ⟨_, _, rfl, rfl, _, _, rfl, rfl, _, _, rfl, rfl, rfl⟩, _, _, _, e, rfl⟩ := hv
    cases e
    exact ⟨_, dq_bl hr, hb⟩
theorem ok_state_table (D : DefL K mg base T "state_table" s_state_table c Pt) (D2 : Def1 K mg "checked_table" s_checked_table) (B : Bl mg) (C1 : Cal P w K mg base CX0 1 "is_list" ["thing"] (SpIL T K)) (C2 : Cal P w K mg base CX0 2 "is_below" ["thing", "limit"] (SpIB T K)) :
    Cal P w K mg base CX0 6 "state_table" ["name", "table", "size"] (SpST T K) := by
  refine cal_ofL D sc_state_table (fun _ _ _ _ _ _ us hl => match us, hl with | [_, _, _], _ => rfl) (fun vs H Q E h => h.1) (fun f A outer s H vs Q E hr h => ?_)
  obtain ⟨_, R, m, es, rfl, ok, hd, ⟨z, d, its, rfl, hs, hf⟩, q⟩ := h
  obtain ⟨v1, v2, v3, rfl, h1, h2, h3⟩ := dqa3 hd
  cases h3
  refine ⟨_, pss_one (ps_ret (pe_ct (k := 3) (N := ["item", "size"]) (fr := ["size"]) (js := [2]) D2 B C1 (by rfl) D.tab (by rfl) D.mem D.one hr (nscope_by (by decide +kernel)) (sc := defScope s_state_table) (by rfl) (by decide +kernel) (by rfl) (by rfl) (fun _ _ _ _ _ us hl => match us, hl with | [_], _ => rfl) (pv 0) (pv 1) (pv 2)
    (fun A outer s H f c' hr2 => pe_cal C2 hr2 (by decide) (by rfl) pass0 (pa_cons (pv 0) (pa_cons (pv 1) pa_nil))))), ?_⟩
  refine s_ret ok (ev_ctab (ev_dvar rfl h1) (ev_dvar rfl h2) (ev_ivar rfl) hs fun it hit v H1 x1 hv => ev_below rfl hv rfl (hf it hit)) fun v H1 x1 k1 ⟨r, hr, e⟩ => ?_
  subst e
  exact q v H1 _ x1 k1 hr ⟨z, d, its, rfl, hs, rfl⟩
/-! ### hearing_table -/
theorem sc_hearing_table : FnScope ["table", "size", "messages"] ["table", "size", "messages"] (defScope s_hearing_table) := ⟨rfl, rfl, rfl, by decide +kernel, rfl, by decide +kernel, by decide +kernel⟩
/-- rows of at most a thousand -/
def slim (it : PyData) : Prop := ∀ ds, it = .tuple ds → ds.length ≤ 1000
abbrev SpHT (T : List (Addr × Str)) (K : PySem.W.Frag) : Sp := SpD T K 3 (fun es => ∃ d its n, es = [d, .int (its.length : Int), .int n] ∧ Seq d its ∧ ∀ it ∈ its, isStates n its.length it = true ∧ slim it) (fun es r => ∃ d its n, es = [d, .int (its.length : Int), .int n] ∧ Seq d its ∧ r = .tuple its)
theorem ok_hearing_table (D : DefL K mg base T "hearing_table" s_hearing_table c Pt) (D2 : Def1 K mg "checked_table" s_checked_table) (B : Bl mg) (C1 : Cal P w K mg base CX0 1 "is_list" ["thing"] (SpIL T K)) (C2 : Cal P w K mg base CX0 3 "are_states" ["item", "many", "size"] (SpAS T K)) :
    Cal P w K mg base CX0 6 "hearing_table" ["table", "size", "messages"] (SpHT T K) := by
  refine cal_ofL D sc_hearing_table (fun _ _ _ _ _ _ us hl => match us, hl with | [_, _, _], _ => rfl) (fun vs H Q E h => h.1) (fun f A outer s H vs Q E hr h => ?_)
  obtain ⟨_, R, m, es, rfl, ok, hd, ⟨d, its, n, rfl, hs, hf⟩, q⟩ := h
  obtain ⟨v1, v2, v3, rfl, h1, h2, h3⟩ := dqa3 hd
  cases h2
  cases h3
  refine ⟨_, pss_one (ps_ret (pe_ct (k := 3) (N := ["item", "messages", "size"]) (fr := ["messages", "size"]) (js := [2, 1]) D2 B C1 (by rfl) D.tab (by rfl) D.mem D.one hr (nscope_by (by decide +kernel)) (sc := defScope s_hearing_table) (by rfl) (by decide +kernel) (by rfl) (by rfl) (fun _ _ _ _ _ us hl => match us, hl with | [_], _ => rfl) pe_str (pv 0) (pv 1)
    (fun A outer s H f c' hr2 => pe_cal C2 hr2 (by decide) (by rfl) pass0 (pa_cons (pv 0) (pa_cons (pv 1) (pa_cons (pv 2) pa_nil)))))), ?_⟩
  refine s_ret ok (ev_ctab (ev_ds (K := K)) (ev_dvar rfl h1) (ev_ivar rfl) hs fun it hit v H1 x1 hv => ev_states rfl hv rfl rfl (hf it hit).1 (hf it hit).2) fun v H1 x1 k1 ⟨r, hr, e⟩ => ?_
  subst e
  exact q v H1 _ x1 k1 hr ⟨d, its, n, rfl, hs, rfl⟩
/-! ### giving_table -/
theorem sc_giving_table : FnScope ["table", "size", "messages", "value_count"] ["table", "size", "messages", "value_count"] (defScope s_giving_table) := ⟨rfl, rfl, rfl, by decide +kernel, rfl, by decide +kernel, by decide +kernel⟩
abbrev SpGT (T : List (Addr × Str)) (K : PySem.W.Frag) : Sp := SpD T K 4 (fun es => ∃ d its n z, es = [d, .int (its.length : Int), .int n, .int z] ∧ Seq d its ∧ ∀ it ∈ its, isGifts n z it = true ∧ slim it) (fun es r => ∃ d its n z, es = [d, .int (its.length : Int), .int n, .int z] ∧ Seq d its ∧ r = .tuple its)
theorem ok_giving_table (D : DefL K mg base T "giving_table" s_giving_table c Pt) (D2 : Def1 K mg "checked_table" s_checked_table) (B : Bl mg) (C1 : Cal P w K mg base CX0 1 "is_list" ["thing"] (SpIL T K)) (C2 : Cal P w K mg base CX0 4 "are_gifts" ["item", "many", "value_count"] (SpAG T K)) :
    Cal P w K mg base CX0 7 "giving_table" ["table", "size", "messages", "value_count"] (SpGT T K) := by
  refine cal_ofL D sc_giving_table (fun _ _ _ _ _ _ us hl => match us, hl with | [_, _, _, _], _ => rfl) (fun vs H Q E h => h.1) (fun f A outer s H vs Q E hr h => ?_)
  obtain ⟨_, R, m, es, rfl, ok, hd, ⟨d, its, n, z, rfl, hs, hf⟩, q⟩ := h
  obtain ⟨v1, v2, v3, v4, rfl, h1, h2, h3, h4⟩ := dqa4 hd
  cases h2
  cases h3
  cases h4
  refine ⟨_, pss_one (ps_ret (pe_ct (k := 4) (N := ["item", "messages", "value_count"]) (fr := ["messages", "value_count"]) (js := [2, 3]) D2 B C1 (by rfl) D.tab (by rfl) D.mem D.one hr (nscope_by (by decide +kernel)) (sc := defScope s_giving_table) (by rfl) (by decide +kernel) (by rfl) (by rfl) (fun _ _ _ _ _ us hl => match us, hl with | [_], _ => rfl) pe_str (pv 0) (pv 1)
    (fun A outer s H f c' hr2 => pe_cal C2 hr2 (by decide) (by rfl) pass0 (pa_cons (pv 0) (pa_cons (pv 1) (pa_cons (pv 2) pa_nil)))))), ?_⟩
  refine s_ret ok (ev_ctab (ev_ds (K := K)) (ev_dvar rfl h1) (ev_ivar rfl) hs fun it hit v H1 x1 hv => ev_gifts rfl hv rfl rfl (hf it hit).1 (hf it hit).2) fun v H1 x1 k1 ⟨r, hr, e⟩ => ?_
  subst e
  exact q v H1 _ x1 k1 hr ⟨d, its, n, z, rfl, hs, rfl⟩
/-! ### taking_table -/
theorem sc_taking_table : FnScope ["table", "size", "value_count"] ["table", "size", "value_count"] (defScope s_taking_table) := ⟨rfl, rfl, rfl, by decide +kernel, rfl, by decide +kernel, by decide +kernel⟩
def isTake (n size : Int) (it : PyData) : Bool := isNonD it || isStates n size it
abbrev SpTT (T : List (Addr × Str)) (K : PySem.W.Frag) : Sp := SpD T K 3 (fun es => ∃ d it0 its n, es = [d, .int ((it0 :: its).length : Int), .int n] ∧ Seq d (it0 :: its) ∧ isNonD it0 = false ∧ ∀ it ∈ it0 :: its, isTake n ((it0 :: its).length : Int) it = true ∧ slim it) (fun es r => ∃ d its n, es = [d, .int (its.length : Int), .int n] ∧ Seq d its ∧ r = .tuple its)
theorem ok_taking_table (D : DefL K mg base T "taking_table" s_taking_table c Pt) (D2 : Def1 K mg "checked_table" s_checked_table) (B : Bl mg) (C1 : Cal P w K mg base CX0 1 "is_list" ["thing"] (SpIL T K)) (C2 : Cal P w K mg base CX0 3 "are_states" ["item", "many", "size"] (SpAS T K)) :
    Cal P w K mg base CX0 6 "taking_table" ["table", "size", "value_count"] (SpTT T K) := by
  refine cal_ofL D sc_taking_table (fun _ _ _ _ _ _ us hl => match us, hl with | [_, _, _], _ => rfl) (fun vs H Q E h => h.1) (fun f A outer s H vs Q E hr h => ?_)
  obtain ⟨_, R, m, es, rfl, ok, hd, ⟨d, it0, its, n, rfl, hs, h0, hf⟩, q⟩ := h
  obtain ⟨v1, v2, v3, rfl, h1, h2, h3⟩ := dqa3 hd
  cases h2
  cases h3
  refine ⟨_, pss_cons (ps_if (PW.pt (pw_and (pt_val (pe_cal C1 hr (by decide) (by rfl) pass0 (pa_cons (pv 0) pa_nil))) (pw_and (pt_cmpR op_eq (pe_callB call_len_seq (by rfl) B.len PySem.boot_len (pa_cons (pv 0) pa_nil)) (pv 1) (nomark _)) (pw_and1 (pt_cmpR op_isN (pe_ix ix_seq (pv 0) pe_int (fun _ _ => rfl)) pe_non (nomark _)))))) (pss_one ps_never) pss_nil)
    (pss_one (ps_ret (pe_ct (k := 3) (N := ["item", "size", "value_count"]) (fr := ["size", "value_count"]) (js := [1, 2]) D2 B C1 (by rfl) D.tab (by rfl) D.mem D.one hr (nscope_by (by decide +kernel)) (sc := defScope s_taking_table) (by rfl) (by decide +kernel) (by rfl) (by rfl) (fun _ _ _ _ _ us hl => match us, hl with | [_], _ => rfl) pe_str (pv 0) (pv 1)
    (fun A outer s H f c' hr2 => pe_or (pe_cmpR op_isN (pv 0) pe_non (nomark _)) (pe_one (pe_cal C2 hr2 (by decide) (by rfl) pass0 (pa_cons (pv 0) (pa_cons (pv 2) (pa_cons (pv 1) pa_nil))))))))), ?_⟩
  refine q_if ok (p := fun b => b = false) (EvT.imp (evt_and (evt_B (ev_islist rfl h1)) fun _ => evt_and (evt_test (ev_eqI (ev_len (ev_dvar rfl h1) fun e he => ⟨it0 :: its, by rw [he]; exact hs⟩) (ev_ivar rfl))) fun _ => evt_test (ev_isN (K := K) (p := (· = it0)) ((ev_ix (ev_dvar rfl h1) ev_int fun d' i hd' hi' => ⟨it0 :: its, 0, it0, by rw [hd']; exact hs, hi', rfl⟩).imp fun v H' x ⟨e, he, d', ds, j, q1, q2, q3, q4⟩ => ?_))) fun b hb => ?_) (fun hp => by cases hp) (fun hp H1 x1 k1 => ?_)
  · subst q1
    have e5 : ds = it0 :: its := by
      rcases hs with h | h <;> rcases q3 with g | g <;> rw [h] at g <;> cases g <;> rfl
    subst e5
    have q2 : (j : Int) = 0 := q2
    obtain rfl : j = 0 := by omega
    cases q4
    exact ⟨_, he, rfl⟩
  · rcases hb with ⟨e, _⟩ | ⟨_, ⟨e, _⟩ | ⟨_, d', rfl, e⟩⟩
    · exact e
    · exact e
    · rw [e, h0]
  · refine s_ret k1 (ev_ctab (ev_ds (K := K)) (ev_dvar rfl (h1.mono x1)) (ev_ivar rfl) hs fun it hit v H2 x2 hv => ?_) fun v H2 x2 k2 ⟨r, hr, e⟩ => ?_
    · refine (ev_orV (q := fun b => b = true) (ev_isN (K := K) (ev_dvar rfl hv)) fun hp => ev_states rfl hv rfl rfl ?_ (hf it hit).2).imp fun v H' x ⟨b, e, hb⟩ => ⟨b, e, ?_⟩
      · obtain ⟨d', rfl, e⟩ := hp
        have z := (hf _ hit).1
        unfold isTake at z
        rw [← e] at z
        exact z
      · rcases hb with ⟨e, _⟩ | ⟨_, e⟩ <;> exact e
    · subst e
      exact q v H2 _ (x1.trans x2) k2 hr ⟨d, it0 :: its, n, rfl, hs, rfl⟩
end
end LW

set_option Elab.async false
set_option linter.all false
set_option maxRecDepth 100000
set_option maxHeartbeats 4000000
namespace LW
open PySem PySem.Spec PyProof.Rows L2 LamX NdefX WE WLam
/-! ### instances whose fields are data -/
abbrev NoM : Addr → Prop := fun _ => False
def FD (K : PySem.W.Frag) (H : Hp) (fs : List (Str × V)) (ds : List (Str × PyData)) : Prop := ∀ p ∈ ds, ∃ v, fs.lookup p.1 = some v ∧ Dq K NoM H v p.2 ∧ imm p.2 = true
/-- at x stands an instance of C with these fields -/
def InsD (K : PySem.W.Frag) (C : Addr) (H : Hp) (x : Addr) (ds : List (Str × PyData)) : Prop := ∃ dx fs, H x = some (.ins C dx fs) ∧ FD K H fs ds
section
variable {K : PySem.W.Frag} {R : Rs} {H H' : Hp} {fs : List (Str × V)} {ds : List (Str × PyData)} {f : Str} {v : V} {d : PyData} {x C dx : Addr} {m : Nat}
theorem FD.nil : FD K H fs [] := fun p hp => by cases hp
theorem FD.tx (h : FD K H fs ds) (x : Tx H H') : FD K H' fs ds := fun p hp => by
  obtain ⟨v, h1, h2, h3⟩ := h p hp
  exact ⟨v, h1, h2.imm x h3, h3⟩
theorem FD.put (h : FD K H fs ds) (hf : ∀ p ∈ ds, p.1 ≠ f) (hv : Dq K NoM H v d) (hd : imm d = true) : FD K H (putF f v fs) ((f, d) :: ds) := fun p hp => by
  rcases List.mem_cons.mp hp with e | e
  · rw [e]
    exact ⟨v, by rw [lookup_putF, if_pos rfl], hv, hd⟩
  · obtain ⟨u, h1, h2, h3⟩ := h p e
    exact ⟨u, by rw [lookup_putF, if_neg (hf p e)]; exact h1, h2, h3⟩
theorem putF_len (f : Str) (v : V) : ∀ fs : List (Str × V), (putF f v fs).length ≤ fs.length + 1
  | [] => Nat.le_refl _
  | (g, x) :: r => by
    unfold putF
    split
    · exact Nat.le_succ _
    · exact Nat.succ_le_succ (putF_len f v r)
theorem tx_ins {o : HO} (h : H x = some (.ins C dx fs)) : Tx H (upd H x o) := by
  refine ⟨fun b ys e => ?_, fun b ob u e => ?_⟩
  · rw [upd_ne (ne_of e h (fun z => nomatch z))]; exact e
  · rw [upd_ne (ne_of e h (fun z => nomatch z))]; exact e
theorem ok_ins {o : HO} (k : Ok R m H) (h : H x = some (.ins C dx fs)) (hn : ¬ R.M x) : Ok R m (upd H x o) := by
  have hb : ∀ b, R.M b → upd H x o b = H b := fun b hm => upd_ne fun z => hn (z ▸ hm)
  refine ⟨fun p hp => ?_, fun b hm => by rw [hb b hm]; exact k.ml b hm, R.loc _ _ _ hb k.g⟩
  obtain ⟨ps, t1, t2, t3⟩ := k.tab p hp
  refine ⟨ps, by rw [upd_ne (ne_of t1 h (fun z => nomatch z))]; exact t1, t2, fun pos cv hcv => ?_⟩
  obtain ⟨c', z1, z2⟩ := t3 pos cv hcv
  exact ⟨c', z1, by rw [upd_ne (ne_of z2 h (fun z => by unfold CodeO at z; cases z))]; exact z2⟩
/-- within an __init__: the instance at x, not there at H0, has the fields fs now -/
structure Ini (R : Rs) (m : Nat) (H0 : Hp) (x dx C : Addr) (fs : List (Str × V)) (H : Hp) : Prop where
  xt : Xt R H0 H
  ok : Ok R m H
  at_ : H x = some (.ins C dx fs)
  new : H0 x = none
  nm : ¬ R.M x
theorem Ini.go {H0 : Hp} (I : Ini R m H0 x dx C fs H) (xt : Xt R H H') (ok : Ok R m H') : Ini R m H0 x dx C fs H' :=
  ⟨I.xt.trans xt, ok, xt.keep x _ I.at_ I.nm (fun _ z => nomatch z), I.new, I.nm⟩
theorem Ini.start {H0 : Hp} (ok : Ok R m H0) (hx : H0 x = none) (hd : H0 dx = none) (ne : dx ≠ x) : Ini R m H0 x dx C [] (upd (upd H0 dx (.own x)) x (.ins C dx [])) := by
  have k1 : Ok R m (upd H0 dx (.own x)) := ok.new hd
  have hx1 : upd H0 dx (.own x) x = none := by rw [upd_ne ne.symm]; exact hx
  exact ⟨(Xt.new hd).trans (.new hx1), k1.new hx1, upd_same, hx, ok.fresh hx⟩
end
section
variable {K : PySem.W.Frag} {R : Rs} {σ : L2.St} {H H0 : Hp} {fs : List (Str × V)} {ds : List (Str × PyData)} {f : Str} {d : PyData} {x C dx : Addr} {n m i : Nat} {te : TE} {D : Ends} {tz : TS}
/-- self.f = e, e data -/
theorem q_fld (I : Ini R n H0 x dx C fs H) (F : FD K H fs ds) (hs : σ[i]? = some (some (.ref x))) {b : Nat} {nm : List Str} (cl : Cls K C) (na : NoAttr K C f) (hl : fs.length ≤ b) (hb : b < 100) (hn : ds.map (·.1) = nm) (hf : f ∉ nm) (h : Ev R n m te σ H (dP K R (· = d))) (hd : imm d = true)
    (z : ∀ fs' H', fs'.length ≤ b + 1 → Ini R m H0 x dx C fs' H' → FD K H' fs' ((f, d) :: ds) → tz D σ H') : tSeq (sFld K (tVar i) te f) tz D σ H := by
  refine h H (.refl _) I.ok _ fun v H1 x1 k1 ⟨d', hv, e⟩ => ?_
  subst e
  have I1 : Ini R m H0 x dx C fs H1 := ⟨I.xt.trans x1, k1, x1.keep x _ I.at_ I.nm (fun _ z => nomatch z), I.new, I.nm⟩
  refine ⟨_, hs, x, C, dx, fs, rfl, I1.at_, cl, na, by omega, ?_⟩
  have t : Tx H1 (upd H1 x (.ins C dx (putF f v fs))) := tx_ins I1.at_
  refine z (putF f v fs) _ (Nat.le_trans (putF_len f v fs) (by omega)) ⟨I1.xt.own I.new, ok_ins k1 I1.at_ I.nm, upd_same, I.new, I.nm⟩ ?_
  exact ((F.tx x1.tx).tx t).put (fun p hp e => hf (by rw [← hn, ← e]; exact List.mem_map_of_mem hp)) (hv.imm t hd) hd
theorem s_fld (I : Ini R n H0 x dx C fs H) (F : FD K H fs ds) (hs : σ[i]? = some (some (.ref x))) {b : Nat} {nm : List Str} (cl : Cls K C) (na : NoAttr K C f) (hl : fs.length ≤ b) (hb : b < 100) (hn : ds.map (·.1) = nm) (hf : f ∉ nm) (h : Ev R n m te σ H (dP K R (· = d))) (hd : imm d = true)
    (z : ∀ fs' H', fs'.length ≤ b + 1 → Ini R m H0 x dx C fs' H' → FD K H' fs' ((f, d) :: ds) → D.nx σ H') : sFld K (tVar i) te f D σ H := q_fld (tz := tNext) I F hs cl na hl hb hn hf h hd z
end
/-! ### what senders and receivers are made of -/
structure OkS (a b c : Int) (s t h k r : List PyData) : Prop where
  a1 : 1 ≤ a
  b1 : 1 ≤ b
  c1 : 1 ≤ c
  ne : s ≠ []
  tl : t.length = s.length
  hl : h.length = s.length
  kl : k.length = s.length
  rl : r.length = s.length
  s_ : ∀ it ∈ s, nonBelow b it = true
  t_ : ∀ it ∈ t, below s.length it = true
  h_ : ∀ it ∈ h, isStates c s.length it = true ∧ slim it
  k0 : ∃ k0 ks, k = k0 :: ks ∧ isNonD k0 = false
  k_ : ∀ it ∈ k, isTake a s.length it = true ∧ slim it
  r_ : ∀ it ∈ r, below s.length it = true
structure OkR (a b c : Int) (s t h g r : List PyData) : Prop where
  a1 : 1 ≤ a
  b1 : 1 ≤ b
  c1 : 1 ≤ c
  ne : s ≠ []
  tl : t.length = s.length
  hl : h.length = s.length
  gl : g.length = s.length
  rl : r.length = s.length
  s_ : ∀ it ∈ s, nonBelow c it = true
  t_ : ∀ it ∈ t, below s.length it = true
  h_ : ∀ it ∈ h, isStates b s.length it = true ∧ slim it
  g_ : ∀ it ∈ g, isGifts b a it = true ∧ slim it
  r_ : ∀ it ∈ r, below s.length it = true
theorem imm_below {n : Int} {d : PyData} (h : below n d = true) : imm d = true := by cases d <;> first | rfl | cases h
theorem imm_nonBelow {n : Int} {d : PyData} (h : nonBelow n d = true) : imm d = true := by cases d <;> first | rfl | cases h
theorem imm_states {a b : Int} {d : PyData} (h : isStates a b d = true) : imm d = true := by
  cases d with
  | tuple ds =>
    unfold isStates at h
    obtain ⟨_, h2⟩ := Bool.and_eq_true_iff.mp h
    unfold imm
    exact immAll_mem fun d hd => imm_below (List.all_eq_true.mp h2 d hd)
  | _ => cases h
theorem imm_gifts {a b : Int} {d : PyData} (h : isGifts a b d = true) : imm d = true := by
  cases d with
  | tuple ds =>
    unfold isGifts at h
    obtain ⟨_, h2⟩ := Bool.and_eq_true_iff.mp h
    unfold imm
    exact immAll_mem fun d hd => imm_nonBelow (List.all_eq_true.mp h2 d hd)
  | _ => cases h
theorem imm_take {a b : Int} {d : PyData} (h : isTake a b d = true) : imm d = true := by
  unfold isTake at h
  rcases Bool.or_eq_true_iff.mp h with z | z
  · cases d <;> first | rfl | cases z
  · exact imm_states z
theorem imm_tup {ds : List PyData} (h : ∀ d ∈ ds, imm d = true) : imm (.tuple ds) = true := by
  unfold imm
  exact immAll_mem h
/-- the fields of a sender, the last one stored first -/
def sndF (a b c : Int) (s t h k r : List PyData) : List (Str × PyData) := [("_crashes", .tuple r), ("_takes", .tuple k), ("_hears", .tuple h), ("_ticks", .tuple t), ("_sends", .tuple s), ("_backward", .int c), ("_forward", .int b), ("_value_count", .int a)]
def rcvF (a b c : Int) (s t h g r : List PyData) : List (Str × PyData) := [("_crashes", .tuple r), ("_gives", .tuple g), ("_hears", .tuple h), ("_ticks", .tuple t), ("_sends", .tuple s), ("_backward", .int c), ("_forward", .int b), ("_value_count", .int a)]
/-- a class of the text -/
structure ClsX (K : PySem.W.Frag) (mg : Str → Option Value) (x : Str) (C fI : Addr) (fs : List Str) : Prop where
  cl : Cls K C
  mgC : mg x = some (.ref C)
  mkr : Mk K C fI
  no : ∀ f ∈ fs, NoAttr K C f
/-- a method of the text -/
structure DefM (K : PySem.W.Frag) (x qual : Str) (st : Stmt) (f : Addr) : Prop where
  ex : ∃ fd : FuncData, FunD K x qual (defArgs st) (defBody st) (defScope st) [] [] f fd
section
variable {P : Program} {w : World} {K : PySem.W.Frag} {mg : Str → Option Value} {base : Heap} {T : List (Addr × Str)} {C fI : Addr}
theorem sc_Sender_init : FnScope ["self", "value_count", "forward", "backward", "sends", "ticks", "hears", "takes", "crashes", "size"] ["self", "value_count", "forward", "backward", "sends", "ticks", "hears", "takes", "crashes"] (defScope s_Sender_init) := ⟨rfl, rfl, rfl, by decide +kernel, rfl, by decide +kernel, by decide +kernel⟩
def SpSI (T : List (Addr × Str)) (K : PySem.W.Frag) (C : Addr) : Sp := fun vs H Q _ => vs.length = 9 ∧ ∃ (R : Rs) (m : Nat) (H0 : Hp) (x dx : Addr) (a b c : Int) (v1 v2 v3 v4 v5 : V) (d1 d2 d3 d4 d5 : PyData) (s t h k r : List PyData), R.T = T ∧ vs = [.ref x, .int a, .int b, .int c, v1, v2, v3, v4, v5] ∧
  (Dq K R.M H0 v1 d1 ∧ Dq K R.M H0 v2 d2 ∧ Dq K R.M H0 v3 d3 ∧ Dq K R.M H0 v4 d4 ∧ Dq K R.M H0 v5 d5) ∧ (Seq d1 s ∧ Seq d2 t ∧ Seq d3 h ∧ Seq d4 k ∧ Seq d5 r) ∧ OkS a b c s t h k r ∧ H = upd (upd H0 dx (.own x)) x (.ins C dx []) ∧ H0 x = none ∧ H0 dx = none ∧ dx ≠ x ∧ Ok R m H0 ∧
  ∀ H', Xt R H0 H' → Ok R m H' → InsD K C H' x (sndF a b c s t h k r) → Q .non H'
theorem ev_counts3 {R : Rs} {σ : L2.St} {H : Hp} {m i j l : Nat} {a b c : Int} (h1 : σ[i]? = some (some (.int a))) (h2 : σ[j]? = some (some (.int b))) (h3 : σ[l]? = some (some (.int c))) (ha : 1 ≤ a) (hb : 1 ≤ b) (hc : 1 ≤ c) : Ev R m m (tCall (SpCC R.T K) [] E0 (tCons (tVar i) (tCons (tVar j) (tCons (tVar l) tNil)))) σ H (dP K R (· = .none)) :=
  (ev_callD (ps := [(· = .int a), (· = .int b), (· = .int c)]) (eva_d (ev_dvar h1 (.int a)) (eva_d (ev_dvar h2 (.int b)) (eva_d (ev_dvar h3 (.int c)) eva_nil))) rfl fun ds h => by
    obtain ⟨_, _, rfl, rfl, _, _, rfl, rfl, _, _, rfl, rfl, rfl⟩ := h
    exact ⟨_, _, _, rfl, ha, hb, hc⟩).imp fun v H' x ⟨r, hr, ds, _, e⟩ => ⟨r, hr, e⟩
theorem Seq.inj {d : PyData} {ds es : List PyData} (h : Seq d ds) (g : Seq d es) : ds = es := by
  rcases h with h | h <;> rcases g with g | g <;> rw [h] at g <;> cases g <;> rfl
theorem ev_size {R : Rs} {σ : L2.St} {H : Hp} {m i : Nat} {v : V} {d : PyData} {s : List PyData} (h : σ[i]? = some (some v)) (hd : Dq K R.M H v d) (hs : Seq d s) (hne : s ≠ []) : Ev R m m (tCall (SpSC R.T K) [] E0 (tCons (tVar i) tNil)) σ H (iP R (· = (s.length : Int))) := by
  refine (ev_callD (ps := [(· = d)]) (eva_d (ev_dvar h hd) eva_nil) rfl fun ds h => ?_).imp fun v H' x hv => ?_
  · obtain ⟨_, _, rfl, rfl, rfl⟩ := h
    exact ⟨_, s, rfl, hs, hne⟩
  · obtain ⟨r, hr, ds, ⟨_, _, rfl, rfl, rfl⟩, _, s', e, h', rfl⟩ := hv
    cases e
    exact ⟨_, dq_int hr, by rw [Seq.inj h' hs]⟩
theorem ev_msgs {R : Rs} {σ : L2.St} {H : Hp} {m i j l : Nat} {v : V} {d : PyData} {s : List PyData} {n : Int} (h : σ[i]? = some (some v)) (hd : Dq K R.M H v d) (hs : Seq d s) (hj : σ[j]? = some (some (.int (s.length : Int)))) (hl : σ[l]? = some (some (.int n))) (hf : ∀ it ∈ s, nonBelow n it = true) :
    Ev R m m (tCall (SpMT R.T K) [] E0 (tCons (tVar i) (tCons (tVar j) (tCons (tVar l) tNil)))) σ H (dP K R (· = .tuple s)) := by
  refine (ev_callD (ps := [(· = d), (· = .int (s.length : Int)), (· = .int n)]) (eva_d (ev_dvar h hd) (eva_d (ev_dvar hj (.int _)) (eva_d (ev_dvar hl (.int n)) eva_nil))) rfl fun ds h => ?_).imp fun v H' x hv => ?_
  · obtain ⟨_, _, rfl, rfl, _, _, rfl, rfl, _, _, rfl, rfl, rfl⟩ := h
    exact ⟨_, s, _, rfl, hs, hf⟩
  · obtain ⟨r, hr, ds, ⟨_, _, rfl, rfl, _, _, rfl, rfl, _, _, rfl, rfl, rfl⟩, _, s', _, e, h', rfl⟩ := hv
    rw [← (List.cons.inj e).1] at h'
    exact ⟨_, hr, by rw [Seq.inj h' hs]⟩
theorem ev_stab {R : Rs} {σ : L2.St} {H : Hp} {m i j : Nat} {v : V} {d : PyData} {s : List PyData} {n : Int} {z : Str} (h : σ[i]? = some (some v)) (hd : Dq K R.M H v d) (hs : Seq d s) (hj : σ[j]? = some (some (.int n))) (hn : (s.length : Int) = n) (hf : ∀ it ∈ s, below n it = true) :
    Ev R m m (tCall (SpST R.T K) [] E0 (tCons (tC (.str z)) (tCons (tVar i) (tCons (tVar j) tNil)))) σ H (dP K R (· = .tuple s)) := by
  subst hn
  refine (ev_callD (ps := [(· = .str z), (· = d), (· = .int (s.length : Int))]) (eva_d ev_ds (eva_d (ev_dvar h hd) (eva_d (ev_dvar hj (.int _)) eva_nil))) rfl fun ds h => ?_).imp fun v H' x hv => ?_
  · obtain ⟨_, _, rfl, rfl, _, _, rfl, rfl, _, _, rfl, rfl, rfl⟩ := h
    exact ⟨_, _, s, rfl, hs, hf⟩
  · obtain ⟨r, hr, ds, ⟨_, _, rfl, rfl, _, _, rfl, rfl, _, _, rfl, rfl, rfl⟩, _, _, s', e, h', rfl⟩ := hv
    rw [← (List.cons.inj (List.cons.inj e).2).1] at h'
    exact ⟨_, hr, by rw [Seq.inj h' hs]⟩
theorem ev_htab {R : Rs} {σ : L2.St} {H : Hp} {m i j l : Nat} {v : V} {d : PyData} {s : List PyData} {n k : Int} (h : σ[i]? = some (some v)) (hd : Dq K R.M H v d) (hs : Seq d s) (hj : σ[j]? = some (some (.int k))) (hn : (s.length : Int) = k) (hl : σ[l]? = some (some (.int n))) (hf : ∀ it ∈ s, isStates n k it = true ∧ slim it) :
    Ev R m m (tCall (SpHT R.T K) [] E0 (tCons (tVar i) (tCons (tVar j) (tCons (tVar l) tNil)))) σ H (dP K R (· = .tuple s)) := by
  subst hn
  refine (ev_callD (ps := [(· = d), (· = .int (s.length : Int)), (· = .int n)]) (eva_d (ev_dvar h hd) (eva_d (ev_dvar hj (.int _)) (eva_d (ev_dvar hl (.int n)) eva_nil))) rfl fun ds h => ?_).imp fun v H' x hv => ?_
  · obtain ⟨_, _, rfl, rfl, _, _, rfl, rfl, _, _, rfl, rfl, rfl⟩ := h
    exact ⟨_, s, _, rfl, hs, hf⟩
  · obtain ⟨r, hr, ds, ⟨_, _, rfl, rfl, _, _, rfl, rfl, _, _, rfl, rfl, rfl⟩, _, s', _, e, h', rfl⟩ := hv
    rw [← (List.cons.inj e).1] at h'
    exact ⟨_, hr, by rw [Seq.inj h' hs]⟩
theorem ev_ttab {R : Rs} {σ : L2.St} {H : Hp} {m i j l : Nat} {v : V} {d : PyData} {s : List PyData} {n k : Int} (h : σ[i]? = some (some v)) (hd : Dq K R.M H v d) (hs : Seq d s) (hj : σ[j]? = some (some (.int k))) (hn : (s.length : Int) = k) (hl : σ[l]? = some (some (.int n))) (h0 : ∃ k0 ks, s = k0 :: ks ∧ isNonD k0 = false) (hf : ∀ it ∈ s, isTake n k it = true ∧ slim it) :
    Ev R m m (tCall (SpTT R.T K) [] E0 (tCons (tVar i) (tCons (tVar j) (tCons (tVar l) tNil)))) σ H (dP K R (· = .tuple s)) := by
  subst hn
  obtain ⟨k0, ks, rfl, h0⟩ := h0
  refine (ev_callD (ps := [(· = d), (· = .int ((k0 :: ks).length : Int)), (· = .int n)]) (eva_d (ev_dvar h hd) (eva_d (ev_dvar hj (.int _)) (eva_d (ev_dvar hl (.int n)) eva_nil))) rfl fun ds h => ?_).imp fun v H' x hv => ?_
  · obtain ⟨_, _, rfl, rfl, _, _, rfl, rfl, _, _, rfl, rfl, rfl⟩ := h
    exact ⟨_, k0, ks, _, rfl, hs, h0, hf⟩
  · obtain ⟨r, hr, ds, ⟨_, _, rfl, rfl, _, _, rfl, rfl, _, _, rfl, rfl, rfl⟩, _, s', _, e, h', rfl⟩ := hv
    rw [← (List.cons.inj e).1] at h'
    exact ⟨_, hr, by rw [Seq.inj h' hs]⟩
theorem ev_gtab {R : Rs} {σ : L2.St} {H : Hp} {m i j l o : Nat} {v : V} {d : PyData} {s : List PyData} {n k z : Int} (h : σ[i]? = some (some v)) (hd : Dq K R.M H v d) (hs : Seq d s) (hj : σ[j]? = some (some (.int k))) (hn : (s.length : Int) = k) (hl : σ[l]? = some (some (.int n))) (ho : σ[o]? = some (some (.int z))) (hf : ∀ it ∈ s, isGifts n z it = true ∧ slim it) :
    Ev R m m (tCall (SpGT R.T K) [] E0 (tCons (tVar i) (tCons (tVar j) (tCons (tVar l) (tCons (tVar o) tNil))))) σ H (dP K R (· = .tuple s)) := by
  subst hn
  refine (ev_callD (ps := [(· = d), (· = .int (s.length : Int)), (· = .int n), (· = .int z)]) (eva_d (ev_dvar h hd) (eva_d (ev_dvar hj (.int _)) (eva_d (ev_dvar hl (.int n)) (eva_d (ev_dvar ho (.int z)) eva_nil)))) rfl fun ds h => ?_).imp fun v H' x hv => ?_
  · obtain ⟨_, _, rfl, rfl, _, _, rfl, rfl, _, _, rfl, rfl, _, _, rfl, rfl, rfl⟩ := h
    exact ⟨_, s, _, _, rfl, hs, hf⟩
  · obtain ⟨r, hr, ds, ⟨_, _, rfl, rfl, _, _, rfl, rfl, _, _, rfl, rfl, _, _, rfl, rfl, rfl⟩, _, s', _, _, e, h', rfl⟩ := hv
    rw [← (List.cons.inj e).1] at h'
    exact ⟨_, hr, by rw [Seq.inj h' hs]⟩
/-- the calls that Sender's and Receiver's makers make -/
structure Tabs5 (P : Program) (w : World) (K : PySem.W.Frag) (mg : Str → Option Value) (base : Heap) (T : List (Addr × Str)) : Prop where
  cc : Cal P w K mg base CX0 3 "check_counts" ["value_count", "forward", "backward"] (SpCC T K)
  sc : Cal P w K mg base CX0 2 "state_count" ["sends"] (SpSC T K)
  mt : Cal P w K mg base CX0 6 "message_table" ["table", "size", "messages"] (SpMT T K)
  st : Cal P w K mg base CX0 6 "state_table" ["name", "table", "size"] (SpST T K)
  ht : Cal P w K mg base CX0 6 "hearing_table" ["table", "size", "messages"] (SpHT T K)
  tt : Cal P w K mg base CX0 6 "taking_table" ["table", "size", "value_count"] (SpTT T K)
  gt : Cal P w K mg base CX0 7 "giving_table" ["table", "size", "messages", "value_count"] (SpGT T K)
theorem ok_Sender_init (D : DefM K "__init__" "Sender.__init__" s_Sender_init fI) (X : ClsX K mg "Sender" C fI ["_value_count", "_forward", "_backward", "_sends", "_ticks", "_hears", "_takes", "_crashes"]) (C5 : Tabs5 P w K mg base T) :
    ∃ fd, FunD K "__init__" "Sender.__init__" (defArgs s_Sender_init) (defBody s_Sender_init) (defScope s_Sender_init) [] [] fI fd ∧ FnOk P w K mg base CX0 8 fI fd ["self", "value_count", "forward", "backward", "sends", "ticks", "hears", "takes", "crashes"] (SpSI T K C) := by
  obtain ⟨fd, F⟩ := D.ex
  refine ⟨fd, F, F.ok sc_Sender_init (fun vs H Q E h => h.1) fun cdv A outer s0 H vs Q E hr h => ?_⟩
  obtain ⟨_, R, m, H0, x, dx, a, b, c, v1, v2, v3, v4, v5, d1, d2, d3, d4, d5, s, t, hh, k, r, rfl, rfl, ⟨h1, h2, h3, h4, h5⟩, ⟨q1, q2, q3, q4, q5⟩, O, rfl, hx, hdx, ne, ok, q⟩ := h
  refine ⟨_, PSs.nox (pss_cons (ps_expr (pe_cal C5.cc hr (by decide) (by rfl) pass0 (pa_cons (pv 1) (pa_cons (pv 2) (pa_cons (pv 3) pa_nil)))))
    (pss_cons (ps_set (i := 9) sc_Sender_init.nd rfl (.inl rfl) (pe_cal C5.sc hr (by decide) (by rfl) pass0 (pa_cons (pv 4) pa_nil)))
    (pss_cons (ps_fld (pv 0) (pv 1) rfl) (pss_cons (ps_fld (pv 0) (pv 2) rfl) (pss_cons (ps_fld (pv 0) (pv 3) rfl)
    (pss_cons (ps_fld (pv 0) (pe_cal C5.mt hr (by decide) (by rfl) pass0 (pa_cons (pv 4) (pa_cons (pv 9) (pa_cons (pv 2) pa_nil)))) rfl)
    (pss_cons (ps_fld (pv 0) (pe_cal C5.st hr (by decide) (by rfl) pass0 (pa_cons pe_str (pa_cons (pv 5) (pa_cons (pv 9) pa_nil)))) rfl)
    (pss_cons (ps_fld (pv 0) (pe_cal C5.ht hr (by decide) (by rfl) pass0 (pa_cons (pv 6) (pa_cons (pv 9) (pa_cons (pv 3) pa_nil)))) rfl)
    (pss_cons (ps_fld (pv 0) (pe_cal C5.tt hr (by decide) (by rfl) pass0 (pa_cons (pv 7) (pa_cons (pv 9) (pa_cons (pv 1) pa_nil)))) rfl)
    (pss_one (ps_fld (pv 0) (pe_cal C5.st hr (by decide) (by rfl) pass0 (pa_cons pe_str (pa_cons (pv 8) (pa_cons (pv 9) pa_nil)))) rfl))))))))))), ?_⟩
  have I0 : Ini R m H0 x dx C [] (upd (upd H0 dx (.own x)) x (.ins C dx [])) := .start ok hx hdx ne
  refine q_drop I0.ok (ev_counts3 rfl rfl rfl O.a1 O.b1 O.c1) fun _ H1 x1 k1 _ => ?_
  have I1 := I0.go x1 k1
  refine q_asg k1 (ev_size rfl (h1.mono I1.xt) q1 O.ne) fun v H2 x2 k2 ⟨_, e, e2⟩ => ?_
  subst e e2
  have I2 := I1.go x2 k2
  refine q_fld (b := 0) (nm := []) I2 FD.nil rfl X.cl (X.no _ (by decide +kernel)) (Nat.le_refl 0) (by decide) rfl (by decide +kernel) (ev_dvar rfl (.int a)) rfl fun f3 H3 l3 I3 F3 => ?_
  refine q_fld (nm := ["_value_count"]) I3 F3 rfl X.cl (X.no _ (by decide +kernel)) l3 (by decide) rfl (by decide +kernel) (ev_dvar rfl (.int b)) rfl fun f4 H4 l4 I4 F4 => ?_
  refine q_fld (nm := ["_forward", "_value_count"]) I4 F4 rfl X.cl (X.no _ (by decide +kernel)) l4 (by decide) rfl (by decide +kernel) (ev_dvar rfl (.int c)) rfl fun f5 H5 l5 I5 F5 => ?_
  refine q_fld (nm := ["_backward", "_forward", "_value_count"]) I5 F5 rfl X.cl (X.no _ (by decide +kernel)) l5 (by decide) rfl (by decide +kernel) (ev_msgs rfl (h1.mono I5.xt) q1 rfl rfl O.s_) (imm_tup fun d hd => imm_nonBelow (O.s_ d hd)) fun f6 H6 l6 I6 F6 => ?_
  refine q_fld (nm := ["_sends", "_backward", "_forward", "_value_count"]) I6 F6 rfl X.cl (X.no _ (by decide +kernel)) l6 (by decide) rfl (by decide +kernel) (ev_stab rfl (h2.mono I6.xt) q2 rfl (by rw [O.tl]) O.t_) (imm_tup fun d hd => imm_below (O.t_ d hd)) fun f7 H7 l7 I7 F7 => ?_
  refine q_fld (nm := ["_ticks", "_sends", "_backward", "_forward", "_value_count"]) I7 F7 rfl X.cl (X.no _ (by decide +kernel)) l7 (by decide) rfl (by decide +kernel) (ev_htab rfl (h3.mono I7.xt) q3 rfl (by rw [O.hl]) rfl O.h_) (imm_tup fun d hd => imm_states (O.h_ d hd).1) fun f8 H8 l8 I8 F8 => ?_
  refine q_fld (nm := ["_hears", "_ticks", "_sends", "_backward", "_forward", "_value_count"]) I8 F8 rfl X.cl (X.no _ (by decide +kernel)) l8 (by decide) rfl (by decide +kernel) (ev_ttab rfl (h4.mono I8.xt) q4 rfl (by rw [O.kl]) rfl O.k0 O.k_) (imm_tup fun d hd => imm_take (O.k_ d hd).1) fun f9 H9 l9 I9 F9 => ?_
  refine s_fld (nm := ["_takes", "_hears", "_ticks", "_sends", "_backward", "_forward", "_value_count"]) I9 F9 rfl X.cl (X.no _ (by decide +kernel)) l9 (by decide) rfl (by decide +kernel) (ev_stab rfl (h5.mono I9.xt) q5 rfl (by rw [O.rl]) O.r_) (imm_tup fun d hd => imm_below (O.r_ d hd)) fun f10 H10 l10 I10 F10 => ?_
  exact q H10 I10.xt I10.ok ⟨dx, f10, I10.at_, F10⟩
end
end LW

set_option Elab.async false
set_option linter.all false
set_option maxRecDepth 100000
set_option maxHeartbeats 4000000
namespace LW
open PySem PySem.Spec PyProof.Rows L2 LamX NdefX WE WLam
section
variable {P : Program} {w : World} {K : PySem.W.Frag} {mg : Str → Option Value} {base : Heap} {T : List (Addr × Str)} {C fI : Addr}
/-! ### Receiver's maker -/
theorem sc_Receiver_init : FnScope ["self", "value_count", "forward", "backward", "sends", "ticks", "hears", "gives", "crashes", "size"] ["self", "value_count", "forward", "backward", "sends", "ticks", "hears", "gives", "crashes"] (defScope s_Receiver_init) := ⟨rfl, rfl, rfl, by decide +kernel, rfl, by decide +kernel, by decide +kernel⟩
def SpRI (T : List (Addr × Str)) (K : PySem.W.Frag) (C : Addr) : Sp := fun vs H Q _ => vs.length = 9 ∧ ∃ (R : Rs) (m : Nat) (H0 : Hp) (x dx : Addr) (a b c : Int) (v1 v2 v3 v4 v5 : V) (d1 d2 d3 d4 d5 : PyData) (s t h k r : List PyData), R.T = T ∧ vs = [.ref x, .int a, .int b, .int c, v1, v2, v3, v4, v5] ∧
  (Dq K R.M H0 v1 d1 ∧ Dq K R.M H0 v2 d2 ∧ Dq K R.M H0 v3 d3 ∧ Dq K R.M H0 v4 d4 ∧ Dq K R.M H0 v5 d5) ∧ (Seq d1 s ∧ Seq d2 t ∧ Seq d3 h ∧ Seq d4 k ∧ Seq d5 r) ∧ OkR a b c s t h k r ∧ H = upd (upd H0 dx (.own x)) x (.ins C dx []) ∧ H0 x = none ∧ H0 dx = none ∧ dx ≠ x ∧ Ok R m H0 ∧
  ∀ H', Xt R H0 H' → Ok R m H' → InsD K C H' x (rcvF a b c s t h k r) → Q .non H'
theorem ok_Receiver_init (D : DefM K "__init__" "Receiver.__init__" s_Receiver_init fI) (X : ClsX K mg "Receiver" C fI ["_value_count", "_forward", "_backward", "_sends", "_ticks", "_hears", "_gives", "_crashes"]) (C5 : Tabs5 P w K mg base T) :
    ∃ fd, FunD K "__init__" "Receiver.__init__" (defArgs s_Receiver_init) (defBody s_Receiver_init) (defScope s_Receiver_init) [] [] fI fd ∧ FnOk P w K mg base CX0 8 fI fd ["self", "value_count", "forward", "backward", "sends", "ticks", "hears", "gives", "crashes"] (SpRI T K C) := by
  obtain ⟨fd, F⟩ := D.ex
  refine ⟨fd, F, F.ok sc_Receiver_init (fun vs H Q E h => h.1) fun cdv A outer s0 H vs Q E hr h => ?_⟩
  obtain ⟨_, R, m, H0, x, dx, a, b, c, v1, v2, v3, v4, v5, d1, d2, d3, d4, d5, s, t, hh, k, r, rfl, rfl, ⟨h1, h2, h3, h4, h5⟩, ⟨q1, q2, q3, q4, q5⟩, O, rfl, hx, hdx, ne, ok, q⟩ := h
  refine ⟨_, PSs.nox (pss_cons (ps_expr (pe_cal C5.cc hr (by decide) (by rfl) pass0 (pa_cons (pv 1) (pa_cons (pv 2) (pa_cons (pv 3) pa_nil)))))
    (pss_cons (ps_set (i := 9) sc_Receiver_init.nd rfl (.inl rfl) (pe_cal C5.sc hr (by decide) (by rfl) pass0 (pa_cons (pv 4) pa_nil)))
    (pss_cons (ps_fld (pv 0) (pv 1) rfl) (pss_cons (ps_fld (pv 0) (pv 2) rfl) (pss_cons (ps_fld (pv 0) (pv 3) rfl)
    (pss_cons (ps_fld (pv 0) (pe_cal C5.mt hr (by decide) (by rfl) pass0 (pa_cons (pv 4) (pa_cons (pv 9) (pa_cons (pv 3) pa_nil)))) rfl)
    (pss_cons (ps_fld (pv 0) (pe_cal C5.st hr (by decide) (by rfl) pass0 (pa_cons pe_str (pa_cons (pv 5) (pa_cons (pv 9) pa_nil)))) rfl)
    (pss_cons (ps_fld (pv 0) (pe_cal C5.ht hr (by decide) (by rfl) pass0 (pa_cons (pv 6) (pa_cons (pv 9) (pa_cons (pv 2) pa_nil)))) rfl)
    (pss_cons (ps_fld (pv 0) (pe_cal C5.gt hr (by decide) (by rfl) pass0 (pa_cons (pv 7) (pa_cons (pv 9) (pa_cons (pv 2) (pa_cons (pv 1) pa_nil))))) rfl)
    (pss_one (ps_fld (pv 0) (pe_cal C5.st hr (by decide) (by rfl) pass0 (pa_cons pe_str (pa_cons (pv 8) (pa_cons (pv 9) pa_nil)))) rfl))))))))))), ?_⟩
  have I0 : Ini R m H0 x dx C [] (upd (upd H0 dx (.own x)) x (.ins C dx [])) := .start ok hx hdx ne
  refine q_drop I0.ok (ev_counts3 rfl rfl rfl O.a1 O.b1 O.c1) fun _ H1 x1 k1 _ => ?_
  have I1 := I0.go x1 k1
  refine q_asg k1 (ev_size rfl (h1.mono I1.xt) q1 O.ne) fun v H2 x2 k2 ⟨_, e, e2⟩ => ?_
  subst e e2
  have I2 := I1.go x2 k2
  refine q_fld (b := 0) (nm := []) I2 FD.nil rfl X.cl (X.no _ (by decide +kernel)) (Nat.le_refl 0) (by decide) rfl (by decide +kernel) (ev_dvar rfl (.int a)) rfl fun f3 H3 l3 I3 F3 => ?_
  refine q_fld (nm := ["_value_count"]) I3 F3 rfl X.cl (X.no _ (by decide +kernel)) l3 (by decide) rfl (by decide +kernel) (ev_dvar rfl (.int b)) rfl fun f4 H4 l4 I4 F4 => ?_
  refine q_fld (nm := ["_forward", "_value_count"]) I4 F4 rfl X.cl (X.no _ (by decide +kernel)) l4 (by decide) rfl (by decide +kernel) (ev_dvar rfl (.int c)) rfl fun f5 H5 l5 I5 F5 => ?_
  refine q_fld (nm := ["_backward", "_forward", "_value_count"]) I5 F5 rfl X.cl (X.no _ (by decide +kernel)) l5 (by decide) rfl (by decide +kernel) (ev_msgs rfl (h1.mono I5.xt) q1 rfl rfl O.s_) (imm_tup fun d hd => imm_nonBelow (O.s_ d hd)) fun f6 H6 l6 I6 F6 => ?_
  refine q_fld (nm := ["_sends", "_backward", "_forward", "_value_count"]) I6 F6 rfl X.cl (X.no _ (by decide +kernel)) l6 (by decide) rfl (by decide +kernel) (ev_stab rfl (h2.mono I6.xt) q2 rfl (by rw [O.tl]) O.t_) (imm_tup fun d hd => imm_below (O.t_ d hd)) fun f7 H7 l7 I7 F7 => ?_
  refine q_fld (nm := ["_ticks", "_sends", "_backward", "_forward", "_value_count"]) I7 F7 rfl X.cl (X.no _ (by decide +kernel)) l7 (by decide) rfl (by decide +kernel) (ev_htab rfl (h3.mono I7.xt) q3 rfl (by rw [O.hl]) rfl O.h_) (imm_tup fun d hd => imm_states (O.h_ d hd).1) fun f8 H8 l8 I8 F8 => ?_
  refine q_fld (nm := ["_hears", "_ticks", "_sends", "_backward", "_forward", "_value_count"]) I8 F8 rfl X.cl (X.no _ (by decide +kernel)) l8 (by decide) rfl (by decide +kernel) (ev_gtab rfl (h4.mono I8.xt) q4 rfl (by rw [O.gl]) rfl rfl O.g_) (imm_tup fun d hd => imm_gifts (O.g_ d hd).1) fun f9 H9 l9 I9 F9 => ?_
  refine s_fld (nm := ["_gives", "_hears", "_ticks", "_sends", "_backward", "_forward", "_value_count"]) I9 F9 rfl X.cl (X.no _ (by decide +kernel)) l9 (by decide) rfl (by decide +kernel) (ev_stab rfl (h5.mono I9.xt) q5 rfl (by rw [O.rl]) O.r_) (imm_tup fun d hd => imm_below (O.r_ d hd)) fun f10 H10 l10 I10 F10 => ?_
  exact q H10 I10.xt I10.ok ⟨dx, f10, I10.at_, F10⟩
/-! ### an object of data, as a value -/
theorem InsD.mono2 {R : Rs} {H H' : Hp} {x : Addr} {ds : List (Str × PyData)} (h : InsD K C H x ds) (hn : ¬ R.M x) (xt : Xt R H H') : InsD K C H' x ds := by
  obtain ⟨dx, fs, h1, h2⟩ := h
  exact ⟨dx, fs, xt.keep x _ h1 hn (fun _ z => nomatch z), h2.tx xt.tx⟩
def oP (K : PySem.W.Frag) (R : Rs) (C : Addr) (ds : List (Str × PyData)) : Rp R := ⟨fun v H => ∃ x, v = .ref x ∧ ¬ R.M x ∧ InsD K C H x ds, fun _ _ _ xt ⟨x, e, n, h⟩ => ⟨x, e, n, h.mono2 n xt⟩⟩
/-- C(a, b, c, k1 = .., .., k5 = ..) -/
theorem kbn35 {x qual : Str} {st : Stmt} {f : Addr} {fd : FuncData} {ps ks : List Str} (F : FunD K x qual (defArgs st) (defBody st) (defScope st) [] [] f fd)
    (h : ∀ (kV doc pm : Value) (an : Option Addr) (cdv ct : Value) (us ws : List Value), us.length = 4 → ws.length = ks.length → bindArgs (PySem.W.fnOf x qual (defArgs st) (defBody st) (defScope st) .none kV doc pm an cdv ct) ⟨us, ks.zip ws⟩ = pure (ps.zip (us ++ ws))) : KBn K fd ps (3 + 1) ks (fun us ws => us ++ ws) (fun vs zs => vs ++ zs) := by
  obtain ⟨oc, od, dV, kV, doc, pm, an, cdv, ct, osl, rfl, lk, hcd, hdv, _⟩ := F.ex
  rcases hdv with ⟨_, e⟩ | ⟨e, _⟩
  · subst e
    exact ⟨fun s us ws _ l1 l2 => .of_eq (h kV doc pm an cdv ct us ws l1 l2), fun r1 r2 => r1.append r2⟩
  · exact absurd rfl e
section
variable {R : Rs} {σ : L2.St} {H : Hp} {n k m : Nat} {tl tk : TA} {a b c : Int} {d1 d2 d3 d4 d5 : PyData} {s t h g r : List PyData}
theorem ev_mkS {CS : Addr} (h1 : EvA R n k tl σ H ([(· = .int a), (· = .int b), (· = .int c)].map (dP K R))) (h2 : EvA R k m tk σ H ([(· = d1), (· = d2), (· = d3), (· = d4), (· = d5)].map (dP K R))) (q1 : Seq d1 s) (q2 : Seq d2 t) (q3 : Seq d3 h) (q4 : Seq d4 g) (q5 : Seq d5 r) (O : OkS a b c s t h g r) :
    Ev R n m (tMakeK CS 3 5 (SpSI R.T K CS) (fun vs zs => vs ++ zs) E0 tl tk) σ H (oP K R CS (sndF a b c s t h g r)) := fun H1 x1 k1 Q q =>
  h1 H1 x1 k1 _ fun vs H2 x2 k2 r2 => h2 H2 (x1.trans x2) k2 _ fun zs H3 x3 k3 r3 => by
    obtain ⟨es, e1, ⟨_, _, rfl, rfl, _, _, rfl, rfl, _, _, rfl, rfl, rfl⟩, _⟩ := allR_D r2
    obtain ⟨fs, e2, ⟨_, _, rfl, rfl, _, _, rfl, rfl, _, _, rfl, rfl, _, _, rfl, rfl, _, _, rfl, rfl, rfl⟩, _⟩ := allR_D r3
    obtain ⟨v1, v2, v3, rfl, g1, g2, g3⟩ := dqa3 e1
    obtain ⟨u1, u2, u3, u4, u5, rfl, f1, f2, f3, f4, f5⟩ := dqa5 e2
    cases g1
    cases g2
    cases g3
    refine ⟨rfl, rfl, fun x dx hx hd ne => ?_⟩
    exact ⟨rfl, R, m, H3, x, dx, a, b, c, u1, u2, u3, u4, u5, _, _, _, _, _, s, t, h, g, r, rfl, rfl, ⟨f1, f2, f3, f4, f5⟩, ⟨q1, q2, q3, q4, q5⟩, O, rfl, hx, hd, ne, k3, fun H4 x4 k4 I => ⟨rfl, q _ H4 (x2.trans (x3.trans x4)) k4 ⟨x, rfl, k3.fresh hx, I⟩⟩⟩
theorem ev_mkR {CS : Addr} (h1 : EvA R n k tl σ H ([(· = .int a), (· = .int b), (· = .int c)].map (dP K R))) (h2 : EvA R k m tk σ H ([(· = d1), (· = d2), (· = d3), (· = d4), (· = d5)].map (dP K R))) (q1 : Seq d1 s) (q2 : Seq d2 t) (q3 : Seq d3 h) (q4 : Seq d4 g) (q5 : Seq d5 r) (O : OkR a b c s t h g r) :
    Ev R n m (tMakeK CS 3 5 (SpRI R.T K CS) (fun vs zs => vs ++ zs) E0 tl tk) σ H (oP K R CS (rcvF a b c s t h g r)) := fun H1 x1 k1 Q q =>
  h1 H1 x1 k1 _ fun vs H2 x2 k2 r2 => h2 H2 (x1.trans x2) k2 _ fun zs H3 x3 k3 r3 => by
    obtain ⟨es, e1, ⟨_, _, rfl, rfl, _, _, rfl, rfl, _, _, rfl, rfl, rfl⟩, _⟩ := allR_D r2
    obtain ⟨fs, e2, ⟨_, _, rfl, rfl, _, _, rfl, rfl, _, _, rfl, rfl, _, _, rfl, rfl, _, _, rfl, rfl, rfl⟩, _⟩ := allR_D r3
    obtain ⟨v1, v2, v3, rfl, g1, g2, g3⟩ := dqa3 e1
    obtain ⟨u1, u2, u3, u4, u5, rfl, f1, f2, f3, f4, f5⟩ := dqa5 e2
    cases g1
    cases g2
    cases g3
    refine ⟨rfl, rfl, fun x dx hx hd ne => ?_⟩
    exact ⟨rfl, R, m, H3, x, dx, a, b, c, u1, u2, u3, u4, u5, _, _, _, _, _, s, t, h, g, r, rfl, rfl, ⟨f1, f2, f3, f4, f5⟩, ⟨q1, q2, q3, q4, q5⟩, O, rfl, hx, hd, ne, k3, fun H4 x4 k4 I => ⟨rfl, q _ H4 (x2.trans (x3.trans x4)) k4 ⟨x, rfl, k3.fresh hx, I⟩⟩⟩
end
/-! ### properties -/
/-- the class has the name as a property that hands out the field -/
structure Prp (P : Program) (w : World) (K : PySem.W.Frag) (mg : Str → Option Value) (base : Heap) (C : Addr) (x f : Str) : Prop where
  ex : ∃ (p g : Addr) (fd : FuncData), PropOf K C x p g ∧ FnOk P w K mg base CX0 1 g fd ["self"] (getSp C f) ∧ Binds K fd ["self"] []
theorem prp_of {x qual f : Str} {st : Stmt} {p g : Addr} {fd : FuncData} {N : List Str} {p1 p2 p3 : Pos} (hp : PropOf K C x p g) (F : FunD K x qual (defArgs st) (defBody st) (defScope st) [] [] g fd) (S : FnScope N ["self"] (defScope st)) (hN : N[0]? = some ("self" : Str)) (hb : defBody st = [.Return (some (.Attribute (.Name "self" p1) f p2)) p3])
    (h : ∀ (kV doc pm : Value) (an : Option Addr) (cdv ct : Value) (us : List Value), us.length = 1 → bindArgs (PySem.W.fnOf x qual (defArgs st) (defBody st) (defScope st) .none kV doc pm an cdv ct) ⟨us, []⟩ = pure ((["self"] : List Str).zip us)) (c : Cls K C) (n : NoAttr K C f) : Prp P w K mg base C x f := by
  have hbn := F.bindsN (ps := ["self"]) h
  obtain ⟨oc, od, dV, kV, doc, pm, an, cdv, ct, osl, rfl, lk, hcd, hdv, _⟩ := F.ex
  exact ⟨p, g, _, hp, fn_getter (k := 0) lk hcd S hN hb c n, hbn⟩
section
variable {X : Cx} {j : Nat} {e : Expr} {ta : TE} {f x : Str} {pos : Pos}
theorem pe_prp (he : PE X e ta) (c : Cls X.K C) (hp : Prp X.prog X.w X.K X.mg X.base C x f) (hr : Room j X.A) (hj : 2 ≤ j) (hab : attributeBase e x X.env (eval e X.env) = eval e X.env := by rfl) : PE X (.Attribute e x pos) (tProp C (getSp C f) [] E0 ta) := by
  obtain ⟨p, g, fd, h1, h2, h3⟩ := hp.ex
  exact pe_prop he c h1 h2 (hr.mono hj) h3 .nil pass0 hab
end
section
variable {R : Rs} {σ : L2.St} {H : Hp} {n m : Nat} {ta : TE} {ds : List (Str × PyData)} {f : Str} {d : PyData}
theorem ev_prp (h : Ev R n m ta σ H (oP K R C ds)) (hm : (f, d) ∈ ds) : Ev R n m (tProp C (getSp C f) [] E0 ta) σ H (dP K R (· = d)) := fun H1 x1 k1 Q q =>
  h H1 x1 k1 _ fun v H2 x2 k2 ⟨x, e, hn, dx, fs, h1, h2⟩ => by
    subst e
    obtain ⟨v, l1, l2, l3⟩ := h2 _ hm
    exact ⟨x, dx, fs, rfl, h1, x, dx, fs, v, rfl, h1, l1, q v H2 x2 k2 ⟨d, l2.imm ⟨fun _ _ z => z, fun _ _ _ z => z⟩ l3, rfl⟩⟩
end
end
end LW

set_option Elab.async false
set_option linter.all false
set_option maxRecDepth 100000
set_option maxHeartbeats 4000000
namespace LW
open PySem PySem.Spec PyProof.Rows L2 LamX NdefX WE WLam
/-- what isinstance asks of an instance's class -/
structure ClsI (K : PySem.W.Frag) (C : Addr) : Prop where
  cl : Cls K C
  ha : PySem.W.findIn K (.ref C) "__class__" = some (some (.builtin "object.__class__"))
  hn : PySem.W.specialIn K (.builtin "object.__class__") "__get__" = some (some (.builtin "getset_descriptor.__get__"))
  htk : PySem.W.takesIn K (.builtin "object.__class__") = some true
  hm : PySem.W.mroIn K C (.type "object") = some true
theorem kit_self {K : PySem.W.Frag} {C : Addr} : PySem.W.kitOne K (.ref C) (.ref C) = some true := by
  unfold PySem.W.kitOne
  rw [if_pos (by simp)]
section
variable {K : PySem.W.Frag} {R : Rs} {σ : L2.St} {H : Hp} {n m : Nat} {ta te : TE} {ds : List (Str × PyData)} {C C' : Addr} {b : Bool}
theorem ev_isiO (I : ClsI K C) (h : Ev R n m ta σ H (oP K R C ds)) (hk : PySem.W.kitOne K (.ref C) (.ref C') = some b) : Ev R n m (tCB (rIsi K) (tCons ta (tCons (tC (.ref C')) tNil))) σ H (bP R (· = b)) := fun H1 x1 k1 Q q =>
  h H1 x1 k1 _ fun v H2 x2 k2 ⟨x, e, hn, dx, fs, h1, h2⟩ => by
    subst e
    exact ⟨.ref x, .ref C', _, _, b, rfl, .own C', .base (.ins h1 I.cl I.ha I.hn I.htk I.hm), hk, q _ H2 x2 k2 ⟨b, rfl, rfl⟩⟩
end
/-! ### pairs -/
/-- at p stands a pair of a sender and a receiver of these data -/
structure PairAt (K : PySem.W.Frag) (M : Addr → Prop) (CP CS CR : Addr) (H : Hp) (p : Addr) (sd rd : List (Str × PyData)) : Prop where
  nm : ¬ M p
  ex : ∃ (dx : Addr) (fs : List (Str × V)) (s r : Addr), H p = some (.ins CP dx fs) ∧ fs.lookup ("_sender" : Str) = some (V.ref s) ∧ fs.lookup ("_receiver" : Str) = some (V.ref r) ∧ ¬ M s ∧ ¬ M r ∧ InsD K CS H s sd ∧ InsD K CR H r rd
theorem PairAt.mono {K : PySem.W.Frag} {R : Rs} {CP CS CR : Addr} {H H' : Hp} {p : Addr} {sd rd : List (Str × PyData)} (h : PairAt K R.M CP CS CR H p sd rd) (x : Xt R H H') : PairAt K R.M CP CS CR H' p sd rd := by
  obtain ⟨dx, fs, s, r, h1, h2, h3, h4, h5, h6, h7⟩ := h.ex
  exact ⟨h.nm, dx, fs, s, r, x.keep p _ h1 h.nm (fun _ z => nomatch z), h2, h3, h4, h5, h6.mono2 h4 x, h7.mono2 h5 x⟩
def pP (K : PySem.W.Frag) (R : Rs) (CP CS CR : Addr) (sd rd : List (Str × PyData)) : Rp R := ⟨fun v H => ∃ p, v = .ref p ∧ PairAt K R.M CP CS CR H p sd rd, fun _ _ _ xt ⟨p, e, h⟩ => ⟨p, e, h.mono xt⟩⟩
section
variable {P : Program} {w : World} {K : PySem.W.Frag} {mg : Str → Option Value} {base : Heap} {T : List (Addr × Str)} {CP CS CR fI : Addr}
/-! ### counts -/
theorem sc_counts : FnScope ["program"] ["program"] (defScope s_counts) := ⟨rfl, rfl, rfl, by decide +kernel, rfl, by decide +kernel, by decide +kernel⟩
/-- a class with the three counts -/
structure Cnt3 (P : Program) (w : World) (K : PySem.W.Frag) (mg : Str → Option Value) (base : Heap) (C : Addr) : Prop where
  cl : Cls K C
  p1 : Prp P w K mg base C "value_count" "_value_count"
  p2 : Prp P w K mg base C "forward" "_forward"
  p3 : Prp P w K mg base C "backward" "_backward"
def SpCnt (P : Program) (w : World) (T : List (Addr × Str)) (K : PySem.W.Frag) (mg : Str → Option Value) (base : Heap) : Sp := fun vs H Q _ => vs.length = 1 ∧ ∃ (R : Rs) (m : Nat) (C x : Addr) (ds : List (Str × PyData)) (a b c : Int), R.T = T ∧ vs = [.ref x] ∧ Cnt3 P w K mg base C ∧ Ok R m H ∧ ¬ R.M x ∧ InsD K C H x ds ∧ (("_value_count" : Str), PyData.int a) ∈ ds ∧ (("_forward" : Str), PyData.int b) ∈ ds ∧ (("_backward" : Str), PyData.int c) ∈ ds ∧
  ∀ v H', Xt R H H' → Ok R m H' → Dq K R.M H' v (.tuple [.int a, .int b, .int c]) → Q v H'
theorem ok_counts (D : Def1 K mg "counts" s_counts) : Cal P w K mg base CX0 3 "counts" ["program"] (SpCnt P w T K mg base) := by
  refine cal_of D sc_counts (fun _ _ _ _ _ _ us hl => match us, hl with | [_], _ => rfl) (fun vs H Q E h => h.1) (fun f cdv A outer s H vs Q E hr h => ?_)
  obtain ⟨_, R, m, C, x, ds, a, b, c, rfl, rfl, N, ok, hn, hI, m1, m2, m3, q⟩ := h
  refine ⟨_, pss_one (ps_ret (pe_tup (pa_cons (pe_prp (pv 0) N.cl N.p1 hr (by decide)) (pa_cons (pe_prp (pv 0) N.cl N.p2 hr (by decide)) (pa_cons (pe_prp (pv 0) N.cl N.p3 hr (by decide)) pa_nil))))), ?_⟩
  have h0 : ∀ {m : Nat}, Ev R m m (tVar 0) (L2.start ["program"] [V.ref x]) H (oP K R C ds) := ev_var rfl ⟨x, rfl, hn, hI⟩
  refine s_ret ok (ev_dtup (ps := [(· = .int a), (· = .int b), (· = .int c)]) (eva_d (ev_prp h0 m1) (eva_d (ev_prp h0 m2) (eva_d (ev_prp h0 m3) eva_nil))) (by show 3 ≤ 1000; decide)) fun v H1 x1 k1 ⟨d, hd, es, e1, e2⟩ => ?_
  obtain ⟨_, _, rfl, rfl, _, _, rfl, rfl, _, _, rfl, rfl, rfl⟩ := e2
  subst e1
  exact q v H1 x1 k1 hd
theorem ev_counts {R : Rs} {σ : L2.St} {H : Hp} {n m : Nat} {te : TE} {C : Addr} {ds : List (Str × PyData)} {a b c : Int} (N : Cnt3 P w K mg base C) (h : Ev R n m te σ H (oP K R C ds)) (m1 : (("_value_count" : Str), PyData.int a) ∈ ds) (m2 : (("_forward" : Str), PyData.int b) ∈ ds) (m3 : (("_backward" : Str), PyData.int c) ∈ ds) :
    Ev R n m (tCall (SpCnt P w R.T K mg base) [] E0 (tCons te tNil)) σ H (dP K R (· = .tuple [.int a, .int b, .int c])) :=
  ev_call (eva_cons h eva_nil) fun vs H1 x1 k1 r Q q => by
    obtain ⟨v, r, rfl, ⟨x, rfl, hn, hI⟩, e⟩ := r
    cases e
    exact ⟨rfl, R, m, C, x, ds, a, b, c, rfl, rfl, N, k1, hn, hI, m1, m2, m3, fun v H' x2 k2 hd => q v H' x2 k2 ⟨_, hd, rfl⟩⟩
/-! ### Pair's maker -/
structure Fld2 (K : PySem.W.Frag) (mg : Str → Option Value) (CP CS CR fI : Addr) : Prop where
  cp : ClsX K mg "Pair" CP fI ["_sender", "_receiver"]
  is : ClsI K CS
  ir : ClsI K CR
  ms : mg "Sender" = some (.ref CS)
  mr : mg "Receiver" = some (.ref CR)
theorem sc_Pair_init : FnScope ["self", "sender", "receiver"] ["self", "sender", "receiver"] (defScope s_Pair_init) := ⟨rfl, rfl, rfl, by decide +kernel, rfl, by decide +kernel, by decide +kernel⟩
def SpPI (T : List (Addr × Str)) (K : PySem.W.Frag) (CP CS CR : Addr) : Sp := fun vs H Q _ => vs.length = 3 ∧ ∃ (R : Rs) (m : Nat) (H0 : Hp) (p dx s r : Addr) (sd rd : List (Str × PyData)) (a b c : Int), R.T = T ∧ vs = [.ref p, .ref s, .ref r] ∧ ¬ R.M s ∧ ¬ R.M r ∧ InsD K CS H0 s sd ∧ InsD K CR H0 r rd ∧
  ((("_value_count" : Str), PyData.int a) ∈ sd ∧ (("_forward" : Str), PyData.int b) ∈ sd ∧ (("_backward" : Str), PyData.int c) ∈ sd) ∧ ((("_value_count" : Str), PyData.int a) ∈ rd ∧ (("_forward" : Str), PyData.int b) ∈ rd ∧ (("_backward" : Str), PyData.int c) ∈ rd) ∧ H = upd (upd H0 dx (.own p)) p (.ins CP dx []) ∧ H0 p = none ∧ H0 dx = none ∧ dx ≠ p ∧ Ok R m H0 ∧
  ∀ H', Xt R H0 H' → Ok R m H' → PairAt K R.M CP CS CR H' p sd rd → Q .non H'
theorem ok_Pair_init (D : DefM K "__init__" "Pair.__init__" s_Pair_init fI) (X : Fld2 K mg CP CS CR fI) (B : Bl mg) (NS : Cnt3 P w K mg base CS) (NR : Cnt3 P w K mg base CR) (C1 : Cal P w K mg base CX0 3 "counts" ["program"] (SpCnt P w T K mg base)) :
    ∃ fd, FunD K "__init__" "Pair.__init__" (defArgs s_Pair_init) (defBody s_Pair_init) (defScope s_Pair_init) [] [] fI fd ∧ FnOk P w K mg base CX0 4 fI fd ["self", "sender", "receiver"] (SpPI T K CP CS CR) := by
  obtain ⟨fd, F⟩ := D.ex
  refine ⟨fd, F, F.ok sc_Pair_init (fun vs H Q E h => h.1) fun cdv A outer s0 H vs Q E hr h => ?_⟩
  obtain ⟨_, R, m, H0, p, dx, s, r, sd, rd, a, b, c, rfl, rfl, ns, nr, hS, hR, ⟨a1, a2, a3⟩, ⟨b1, b2, b3⟩, rfl, hp, hdx, ne, ok, q⟩ := h
  refine ⟨_, PSs.nox (pss_cons (ps_if (pt_not (pt_val (pe_callB call_isi (by rfl) B.isinstance (by decide +kernel) (pa_cons (pv 1) (pa_cons (pe_glob (v := .ref CS) (by rfl) X.ms rfl) pa_nil))))) (pss_one ps_never) pss_nil)
    (pss_cons (ps_if (pt_not (pt_val (pe_callB call_isi (by rfl) B.isinstance (by decide +kernel) (pa_cons (pv 2) (pa_cons (pe_glob (v := .ref CR) (by rfl) X.mr rfl) pa_nil))))) (pss_one ps_never) pss_nil)
    (pss_cons (ps_if (pt_cmpR (op_neD hr.units) (pe_cal C1 hr (by decide) (by rfl) pass0 (pa_cons (pv 1) pa_nil)) (pe_cal C1 hr (by decide) (by rfl) pass0 (pa_cons (pv 2) pa_nil)) (nomark _)) (pss_one ps_never) pss_nil)
    (pss_cons (ps_fld (pv 0) (pv 1) rfl) (pss_one (ps_fld (pv 0) (pv 2) rfl)))))), ?_⟩
  have I0 : Ini R m H0 p dx CP [] (upd (upd H0 dx (.own p)) p (.ins CP dx [])) := .start ok hp hdx ne
  have hS1 := hS.mono2 ns I0.xt
  have hR1 := hR.mono2 nr I0.xt
  refine q_if I0.ok (evt_not (evt_B (ev_isiO X.is (ev_var rfl ⟨s, rfl, ns, hS1⟩) kit_self))) (fun hp => by cases hp) fun _ H1 x1 k1 => ?_
  have I1 := I0.go x1 k1
  refine q_if k1 (evt_not (evt_B (ev_isiO X.ir (ev_var rfl ⟨r, rfl, nr, hR1.mono2 nr x1⟩) kit_self))) (fun hp => by cases hp) fun _ H2 x2 k2 => ?_
  have I2 := I1.go x2 k2
  have hS2 := hS.mono2 ns I2.xt
  have hR2 := hR.mono2 nr I2.xt
  refine q_if k2 (p := fun b => b = false) (evt_test ((ev_neD (ev_counts NS (ev_var rfl ⟨s, rfl, ns, hS2⟩) a1 a2 a3) (ev_counts NR (ev_var rfl ⟨r, rfl, nr, hR2⟩) b1 b2 b3) (fun d e => by rw [e]; rfl) (fun d e => by rw [e]; rfl)).imp fun v H' x ⟨b, e, d1, d2, e1, e2, e3⟩ => ⟨b, e, ?_⟩)) (fun hp => by cases hp) fun _ H3 x3 k3 => ?_
  · rw [e3, e1, e2]
    simp [PyData.eqv, PyData.eqvAll]
  · have I3 := I2.go x3 k3
    have cl := X.cp.cl
    refine ⟨_, rfl, _, rfl, p, CP, dx, [], rfl, I3.at_, cl, X.cp.no _ (by decide +kernel), by decide, ?_⟩
    have at4 : upd H3 p (.ins CP dx (putF "_sender" (.ref s) [])) p = some (.ins CP dx (putF "_sender" (.ref s) [])) := upd_same
    refine ⟨_, rfl, _, rfl, p, CP, dx, _, rfl, at4, cl, X.cp.no _ (by decide +kernel), by show 1 < 1000; decide, ?_⟩
    have x4 : Xt R H0 (upd (upd H3 p (.ins CP dx (putF "_sender" (.ref s) []))) p (.ins CP dx (putF "_receiver" (.ref r) (putF "_sender" (.ref s) [])))) := (I3.xt.own hp).own hp
    refine q _ x4 (ok_ins (ok_ins k3 I3.at_ I3.nm) at4 I3.nm) ⟨ok.fresh hp, dx, _, s, r, upd_same, ?_, ?_, ns, nr, hS.mono2 ns x4, hR.mono2 nr x4⟩
    · rw [lookup_putF, if_neg (by decide +kernel), lookup_putF, if_pos rfl]
    · rw [lookup_putF, if_pos rfl]
/-- Pair(s, r) -/
theorem ev_mkP {R : Rs} {σ : L2.St} {H : Hp} {n k m : Nat} {t1 t2 : TE} {sd rd : List (Str × PyData)} {a b c : Int} (h1 : Ev R n k t1 σ H (oP K R CS sd)) (h2 : Ev R k m t2 σ H (oP K R CR rd)) (a1 : (("_value_count" : Str), PyData.int a) ∈ sd ∧ (("_forward" : Str), PyData.int b) ∈ sd ∧ (("_backward" : Str), PyData.int c) ∈ sd) (b1 : (("_value_count" : Str), PyData.int a) ∈ rd ∧ (("_forward" : Str), PyData.int b) ∈ rd ∧ (("_backward" : Str), PyData.int c) ∈ rd) :
    Ev R n m (tMake CP (SpPI R.T K CP CS CR) [] E0 (tCons t1 (tCons t2 tNil))) σ H (pP K R CP CS CR sd rd) := fun H1 x1 k1 Q q =>
  h1 H1 x1 k1 _ fun v H2 x2 k2 ⟨s, e, ns, hS⟩ => h2 H2 (x1.trans x2) k2 _ fun u H3 x3 k3 ⟨r, e2, nr, hR⟩ => by
    subst e e2
    intro p dx hp hd ne
    exact ⟨rfl, R, m, H3, p, dx, s, r, sd, rd, a, b, c, rfl, rfl, ns, nr, hS.mono2 ns x3, hR, a1, b1, rfl, hp, hd, ne, k3, fun H4 x4 k4 I => ⟨rfl, q _ H4 (x2.trans (x3.trans x4)) k4 ⟨p, rfl, I⟩⟩⟩
end
end LW

set_option Elab.async false
set_option linter.all false
set_option maxRecDepth 100000
set_option maxHeartbeats 4000000
namespace LW
open PySem PySem.Spec PyProof.Rows L2 LamX NdefX WE WLam
section
variable {K : PySem.W.Frag} {R : Rs} {σ : L2.St} {H : Hp} {n m k : Nat} {ta tb : TE} {pi qi : Int → Prop}
theorem ev_addT (ha : Ev R n k ta σ H (iP R pi)) (hb : Ev R k m tb σ H (iP R qi)) : Ev R n m (tOp (rI0 fun i j => .int (i + j)) ta tb) σ H (iP R fun _ => True) := ev_I0 ha hb fun _ _ _ _ _ => ⟨_, rfl, trivial⟩
theorem ev_mulT (ha : Ev R n k ta σ H (iP R pi)) (hb : Ev R k m tb σ H (iP R qi)) (hC : ∀ i j, pi i → qi j → CMul i j) : Ev R n m (tOp (rI CMul fun i j => .int (i * j)) ta tb) σ H (iP R fun _ => True) := ev_I ha hb hC fun _ _ _ _ _ => ⟨_, rfl, trivial⟩
end
section
variable {P : Program} {w : World} {K : PySem.W.Frag} {mg : Str → Option Value} {base : Heap} {T : List (Addr × Str)}
/-! ### _law_mixed -/
theorem sc_law_mixed : FnScope ["cell", "k", "stirred"] ["cell", "k"] (defScope s_law_mixed) := ⟨rfl, rfl, rfl, by decide +kernel, rfl, by decide +kernel, by decide +kernel⟩
abbrev SpMx (T : List (Addr × Str)) (K : PySem.W.Frag) : Sp := SpD T K 2 (fun ds => ∃ c k : Int, ds = [.int c, .int k] ∧ 0 ≤ c ∧ c < 2147483647 ∧ 0 ≤ k ∧ k ≤ 1000000000001) (fun ds r => ∃ i, r = .int i)
theorem ok_law_mixed (D : Def1 K mg "_law_mixed" s_law_mixed) (B : Bl mg) : Cal P w K mg base CX0 1 "_law_mixed" ["cell", "k"] (SpMx T K) := by
  refine cal_of D sc_law_mixed (fun _ _ _ _ _ _ us hl => match us, hl with | [_, _], _ => rfl) (fun vs H Q E h => h.1) (fun f cdv A outer s H vs Q E hr h => ?_)
  obtain ⟨_, R, m, ds, rfl, ok, hd, ⟨c, k, rfl, c0, c1, k0, k1⟩, q⟩ := h
  obtain ⟨v1, v2, rfl, h1, h2⟩ := dqa2 hd
  cases h1
  cases h2
  refine ⟨_, pss_cons (ps_set (i := 2) sc_law_mixed.nd rfl (.inl rfl) (pe_op op_modN (pe_callTy call_int1 (by rfl) B.int (by decide +kernel) (pa_cons (pe_op op_add (pe_op op_add (pe_op op_add (pe_op op_mul (pv 0) pe_int) (pe_op op_mul (pe_op op_mul pe_int (pv 1)) (pv 1))) (pe_op op_mul pe_int (pv 1))) pe_int) pa_nil)) pe_int))
    (pss_one (ps_ret (pe_op op_fdivN (pe_op op_modN (pe_callTy call_int1 (by rfl) B.int (by decide +kernel) (pa_cons (pe_op op_add (pe_op op_add (pe_op op_mul (pv 2) (pv 2)) (pe_op op_mul pe_int (pv 2))) pe_int) pa_nil)) pe_int) pe_int))), ?_⟩
  have pos : Ev R m m (tOp (rI CMul fun i j => .int (i * j)) (tC (.int 40503)) (tVar 1)) (L2.start ["cell", "k", "stirred"] [.int c, .int k]) H (iP R fun z => -2 ^ 64 < z ∧ z < 2 ^ 64) := ev_I (pi := (· = 40503)) ev_int (ev_ivar rfl) (fun i j e1 e2 => by
    subst e1 e2
    exact .inl ⟨by omega, by omega⟩) fun i j H e1 e2 => ⟨_, rfl, by subst e1 e2; exact ⟨by omega, by omega⟩⟩
  refine q_asg (P := iP R fun i => 0 ≤ i ∧ i < 2147483647) ok (ev_I (ev_int1 (ev_addT (ev_addT (ev_addT (ev_mulT (ev_ivar rfl) ev_int fun i j e1 e2 => ?_) (ev_mulT pos (ev_ivar rfl) fun i j e1 e2 => .inl e1)) (ev_mulT ev_int (ev_ivar rfl) fun i j e1 e2 => ?_)) ev_int)) ev_int (fun i j e1 e2 => ?_) fun i j H e1 e2 => ⟨_, rfl, ?_⟩) fun v H1 x1 k1 ⟨st, e, s0, s1⟩ => ?_
  · subst e1 e2
    exact .inl ⟨by omega, by omega⟩
  · subst e1 e2
    exact .inl ⟨by omega, by omega⟩
  · subst e2
    decide
  · subst e2
    exact ⟨Int.fmod_nonneg_of_pos _ (by decide), Int.fmod_lt_of_pos _ (by decide)⟩
  · subst e
    refine s_ret k1 (P := iP R fun _ => True) (ev_I (pi := fun _ => True) (ev_I (ev_int1 (ev_addT (ev_addT (ev_mulT (ev_ivar rfl) (ev_ivar rfl) fun i j e1 e2 => ?_) (ev_mulT ev_int (ev_ivar rfl) fun i j e1 e2 => ?_)) ev_int)) ev_int (fun i j e1 e2 => ?_) fun i j H e1 e2 => ⟨_, rfl, trivial⟩) ev_int (fun i j e1 e2 => ?_) fun i j H e1 e2 => ⟨_, rfl, trivial⟩) fun v H2 x2 k2 ⟨i, e, _⟩ => ?_
    · subst e1 e2
      exact .inl ⟨by omega, by omega⟩
    · subst e1 e2
      exact .inl ⟨by omega, by omega⟩
    · subst e2
      decide
    · subst e2
      exact ⟨by decide, by decide⟩
    · subst e
      exact q _ H2 (.int i) (x1.trans x2) k2 (.int i) ⟨i, rfl⟩
/-! ### _law_draw -/
theorem sc_law_draw : FnScope ["purse", "out_of", "drawn"] ["purse", "out_of"] (defScope s_law_draw) := ⟨rfl, rfl, rfl, by decide +kernel, rfl, by decide +kernel, by decide +kernel⟩
def SpDr (T : List (Addr × Str)) : Sp := fun vs H Q _ => vs.length = 2 ∧ ∃ (a : Addr) (m : Int) (k : Nat), vs = [.ref a, .int m] ∧ 1 ≤ m ∧ m < 1073741824 ∧ Ok (RP T a) (k + 1) H ∧
  ∀ (d : Int) H', Xt (RP T a) H H' → Ok (RP T a) k H' → 0 ≤ d → d < m → Q (.int d) H'
theorem purse_put {a : Addr} {H : Hp} {x y z x' z' : Int} {k : Nat} (ok : Ok (RP T a) (k + 1) H) (hp : H a = some (.lst [.int x, .int y, .int z])) (y0 : 0 ≤ y) (y1 : y < 2147483647) (hx : 0 ≤ x') (hz : 0 ≤ z') (hk : z' + (k : Int) ≤ 1000000000000) :
    Xt (RP T a) H (upd H a (.lst [.int x', .int y, .int z'])) ∧ Ok (RP T a) k (upd H a (.lst [.int x', .int y, .int z'])) := by
  have ne : ∀ b o, H b = some o → (∀ xs, o ≠ .lst xs) → b ≠ a := fun b o h n e => by
    rw [e, hp] at h
    cases h
    exact n _ rfl
  refine ⟨⟨fun b o h n _ => ?_, fun b xs h => ?_, fun b o u h => ?_, fun b h => ?_⟩, ⟨fun p hp2 => ?_, fun b hb => ?_, ?_⟩⟩
  · rw [upd_ne n]
    exact h
  · rw [upd_ne (ne _ _ h fun _ z => nomatch z)]
    exact h
  · rw [upd_ne (ne _ _ h fun _ z => nomatch z)]
    exact h
  · unfold upd at h
    split at h
    · cases h
    · exact h
  · obtain ⟨ps, t1, t2, t3⟩ := ok.tab p hp2
    refine ⟨ps, by rw [upd_ne (ne _ _ t1 fun _ z => nomatch z)]; exact t1, t2, fun pos cv hcv => ?_⟩
    obtain ⟨c', z1, z2⟩ := t3 pos cv hcv
    exact ⟨c', z1, by rw [upd_ne (ne _ _ z2 fun _ z => by unfold CodeO at z; cases z)]; exact z2⟩
  · have hb : b = a := hb
    rw [hb]
    exact ⟨_, upd_same, .inl ⟨_, rfl⟩⟩
  · exact ⟨x', y, z', upd_same, hx, y0, y1, hz, hk⟩
theorem ok_law_draw (D : Def1 K mg "_law_draw" s_law_draw) (B : Bl mg) (C1 : Cal P w K mg base CX0 1 "_law_mixed" ["cell", "k"] (SpMx T K)) : Cal P w K mg base CX0 2 "_law_draw" ["purse", "out_of"] (SpDr T) := by
  refine cal_of D sc_law_draw (fun _ _ _ _ _ _ us hl => match us, hl with | [_, _], _ => rfl) (fun vs H Q E h => h.1) (fun f cdv A outer s H vs Q E hr h => ?_)
  obtain ⟨_, a, m, k, rfl, m1, m2, ok, q⟩ := h
  obtain ⟨x, y, z, hp, x0, y0, y1, z0, hk⟩ := ok.g
  refine ⟨_, pss_cons (ps_if (pt_cmpR op_gt (pe_ix ix_seq (pv 0) pe_int (fun _ _ => rfl)) pe_int (nomark _))
      (pss_cons (ps_set (i := 2) sc_law_draw.nd rfl (.inl rfl) (pe_op op_modN (pe_callTy call_int1 (by rfl) B.int (by decide +kernel) (pa_cons (pe_ix ix_seq (pv 0) pe_int (fun _ _ => rfl)) pa_nil)) (pv 1)))
      (pss_cons (ps_asg (pe_op op_fdivN (pe_ix ix_seq (pv 0) pe_int (fun _ _ => rfl)) (pv 1)) (pg_sub (pv 0) pe_int set_list))
      (pss_one (ps_ret (pv 2))))) pss_nil)
    (pss_cons (ps_asg (pe_op op_add (pe_ix ix_seq (pv 0) pe_int (fun _ _ => rfl)) pe_int) (pg_sub (pv 0) pe_int set_list))
      (pss_one (ps_ret (pe_op op_modN (pe_callTy call_int1 (by rfl) B.int (by decide +kernel) (pa_cons (pe_cal C1 hr (by decide) (by rfl) pass0 (pa_cons (pe_ix ix_seq (pv 0) pe_int (fun _ _ => rfl)) (pa_cons (pe_ix ix_seq (pv 0) pe_int (fun _ _ => rfl)) pa_nil))) pa_nil)) (pv 1))))), ?_⟩
  refine ⟨_, rfl, .inl ⟨a, _, _, _, rfl, rfl, .inl (.inl hp), rfl, ?_⟩⟩
  refine ⟨x, 0, rfl, rfl, _, rfl, ?_⟩
  by_cases hx : x > 0
  · rw [decide_eq_true hx]
    refine iteT ?_
    refine ⟨_, rfl, .inl ⟨a, _, _, _, rfl, rfl, .inl (.inl hp), rfl, ?_⟩⟩
    refine .inl ⟨x, rfl, ⟨_, rfl, x, m, rfl, rfl, by omega, ?_⟩⟩
    refine ⟨_, rfl, .inl ⟨a, _, _, _, rfl, rfl, .inl (.inl hp), rfl, ?_⟩⟩
    refine ⟨_, rfl, x, m, rfl, rfl, ⟨by omega, by omega⟩, ?_⟩
    refine ⟨_, rfl, a, _, _, 0, rfl, rfl, hp, rfl, ?_⟩
    refine ⟨_, rfl, ?_⟩
    obtain ⟨xt, ok2⟩ := purse_put (x' := x.fdiv m) (z' := z) ok hp y0 y1 (Int.fdiv_nonneg x0 (by omega)) z0 (by omega)
    exact q _ _ xt ok2 (Int.fmod_nonneg_of_pos _ (by omega)) (Int.fmod_lt_of_pos _ (by omega))
  · rw [decide_eq_false hx]
    refine iteF ?_
    refine ⟨_, rfl, .inl ⟨a, _, _, _, rfl, rfl, .inl (.inl hp), rfl, ?_⟩⟩
    refine ⟨z, 1, rfl, rfl, ?_⟩
    refine ⟨_, rfl, a, _, _, 2, rfl, rfl, hp, rfl, ?_⟩
    obtain ⟨xt, ok2⟩ := purse_put (x' := x) (z' := z + 1) ok hp y0 y1 x0 (by omega) (by omega)
    refine ⟨_, rfl, .inl ⟨a, [.int x, .int y, .int (z + 1)], _, _, rfl, rfl, .inl (.inl upd_same), rfl, ?_⟩⟩
    refine ⟨_, rfl, .inl ⟨a, [.int x, .int y, .int (z + 1)], _, _, rfl, rfl, .inl (.inl upd_same), rfl, ?_⟩⟩
    refine ⟨rfl, RP T a, k, [.int y, .int (z + 1)], rfl, ok2, .cons (.int _) (.cons (.int _) .nil), ⟨y, z + 1, rfl, y0, y1, by omega, by omega⟩, fun v H3 d x3 k3 hd ⟨i, e⟩ => ?_⟩
    subst e
    have e := dq_int hd
    subst e
    refine .inl ⟨i, rfl, _, rfl, i, m, rfl, rfl, by omega, ?_⟩
    exact q _ _ (xt.trans x3) k3 (Int.fmod_nonneg_of_pos _ (by omega)) (Int.fmod_lt_of_pos _ (by omega))
end
end LW

set_option Elab.async false
set_option linter.all false
set_option maxRecDepth 100000
set_option maxHeartbeats 4000000
namespace LW
open PySem PySem.Spec PyProof.Rows L2 LamX NdefX WE WLam
theorem isStates_of {many size : Int} {ds : List PyData} (h : (ds.length : Int) = many) (h2 : ∀ d ∈ ds, below size d = true) : isStates many size (.tuple ds) = true := by
  show (decide ((ds.length : Int) = many) && ds.all (below size)) = true
  rw [decide_eq_true h, Bool.true_and]
  exact List.all_eq_true.mpr h2
theorem isGifts_of {many size : Int} {ds : List PyData} (h : (ds.length : Int) = many) (h2 : ∀ d ∈ ds, nonBelow size d = true) : isGifts many size (.tuple ds) = true := by
  show (decide ((ds.length : Int) = many) && ds.all (nonBelow size)) = true
  rw [decide_eq_true h, Bool.true_and]
  exact List.all_eq_true.mpr h2
theorem below_int {d m : Int} (h1 : 0 ≤ d) (h2 : d < m) : below m (.int d) = true := by
  show (decide (0 ≤ d) && decide (d < m)) = true
  rw [decide_eq_true h1, decide_eq_true h2] <;> rfl
/-- a def whose first argument is a purse, the others data -/
def SpP (T : List (Addr × Str)) (K : PySem.W.Frag) (n c : Nat) (pre : List PyData → Prop) (post : List PyData → PyData → Prop) : Sp := fun vs H Q _ => vs.length = n + 1 ∧ ∃ (a : Addr) (k : Nat) (us : List V) (ds : List PyData), vs = .ref a :: us ∧ Ok (RP T a) (k + c) H ∧ DqAll K (RP T a).M H us ds ∧ pre ds ∧
  ∀ v H' d, Xt (RP T a) H H' → Ok (RP T a) k H' → Dq K (RP T a).M H' v d → post ds d → Q v H'
section
variable {K : PySem.W.Frag} {T : List (Addr × Str)} {a : Addr} {σ : L2.St} {H : Hp} {n m k c i : Nat} {te : TE} {tl : TA} {pi : Int → Prop}
theorem ev_draw (hv : σ[i]? = some (some (.ref a))) (h : Ev (RP T a) n (k + 1) te σ H (iP _ pi)) (hp : ∀ i, pi i → 1 ≤ i ∧ i < 1073741824) : Ev (RP T a) n k (tCall (SpDr T) [] E0 (tCons (tVar i) (tCons te tNil))) σ H (iP _ fun d => ∃ m, pi m ∧ 0 ≤ d ∧ d < m) :=
  ev_call (eva_cons (ev_var (P := vP _ (.ref a)) hv rfl) (eva_cons h eva_nil)) fun vs H1 x1 k1 r Q q => by
    obtain ⟨v, r, rfl, e1, u, r2, rfl, ⟨i, e2, hi⟩, e3⟩ := r
    cases e1
    cases e3
    subst e2
    obtain ⟨h1, h2⟩ := hp i hi
    exact ⟨rfl, a, i, k, rfl, h1, h2, k1, fun d H2 x2 k2 d0 d1 => q _ H2 x2 k2 ⟨d, rfl, i, hi, d0, d1⟩⟩
theorem ev_drawD (hv : σ[i]? = some (some (.ref a))) {z : Int} (h : Ev (RP T a) n (k + 1) te σ H (iP _ (· = z))) (h1 : 1 ≤ z) (h2 : z < 1073741824) : Ev (RP T a) n k (tCall (SpDr T) [] E0 (tCons (tVar i) (tCons te tNil))) σ H (dP K _ fun d => below z d = true) :=
  (ev_draw hv h fun i e => by subst e; exact ⟨h1, h2⟩).imp fun v H' _ ⟨d, e, m, e2, d0, d1⟩ => by
    subst e e2
    exact ⟨.int d, .int d, below_int d0 d1⟩
theorem ev_callP {ar : Nat} {pre : List PyData → Prop} {post : List PyData → PyData → Prop} {ps : List (PyData → Prop)} (hv : σ[i]? = some (some (.ref a))) (ha : EvA (RP T a) n (m + c) tl σ H (ps.map (dP K (RP T a)))) (hn : ps.length = ar) (hpre : ∀ ds, AllD ps ds → pre ds) :
    Ev (RP T a) n m (tCall (SpP T K ar c pre post) [] E0 (tCons (tVar i) tl)) σ H (dP K (RP T a) fun d => ∃ ds, AllD ps ds ∧ post ds d) :=
  ev_call (eva_cons (ev_var (P := vP _ (.ref a)) hv rfl) ha) fun vs H1 x k r Q q => by
    obtain ⟨v, us, rfl, e1, r⟩ := r
    cases e1
    obtain ⟨ds, h1, h2, h3⟩ := allR_D r
    exact ⟨by rw [List.length_cons, h3, hn], a, m, us, ds, rfl, k, h1, hpre ds h2, fun v H' d x2 k2 hd hp => q v H' x2 k2 ⟨d, hd, ds, h2, hp⟩⟩
end
section
variable {P : Program} {w : World} {K : PySem.W.Frag} {mg : Str → Option Value} {base : Heap} {T : List (Addr × Str)}
/-! ### _law_row -/
theorem sc_law_row : FnScope ["purse", "many", "most", "lap"] ["purse", "many", "most"] (defScope s_law_row) := ⟨rfl, rfl, rfl, by decide +kernel, rfl, by decide +kernel, by decide +kernel⟩
abbrev SpRow (T : List (Addr × Str)) (K : PySem.W.Frag) : Sp := SpP T K 2 64 (fun ds => ∃ many most : Int, ds = [.int many, .int most] ∧ 1 ≤ many ∧ many ≤ 64 ∧ 1 ≤ most ∧ most ≤ 64) (fun ds d => ∃ many most : Int, ds = [.int many, .int most] ∧ isStates many most d = true)
theorem ok_law_row (D : Def1 K mg "_law_row" s_law_row) (B : Bl mg) (C1 : Cal P w K mg base CX0 2 "_law_draw" ["purse", "out_of"] (SpDr T)) : Cal P w K mg base CX0 3 "_law_row" ["purse", "many", "most"] (SpRow T K) := by
  refine cal_of D sc_law_row (fun _ _ _ _ _ _ us hl => match us, hl with | [_, _, _], _ => rfl) (fun vs H Q E h => h.1) (fun f cdv A outer s H vs Q E hr h => ?_)
  obtain ⟨_, a, k, us, ds, rfl, ok, hd, ⟨many, most, rfl, b1, b2, b3, b4⟩, q⟩ := h
  obtain ⟨v1, v2, rfl, h1, h2⟩ := dqa2 hd
  cases h1
  cases h2
  refine ⟨_, pss_one (ps_ret (pe_callTy call_tuple_of (by rfl) B.tuple (by decide +kernel) (pa_cons (pe_lc (own := [("lap", 3)]) (g := gName 3) (tt := tYes) rfl sc_law_row.nd (pi_range1 (by rfl) B.range (pa_cons (pv 1) pa_nil)) (blkOk_by (N := ["purse", "many", "most", "lap"]) (sc := defScope s_law_row) (by decide +kernel))
        (fun _ _ _ _ _ => pg_name (i := 3) sc_law_row.nd rfl (Or.inl rfl)) (fun _ _ _ _ _ => pts_nil) (fun _ _ _ _ _ => pe_cal C1 hr (by decide) (by rfl) pass0 (pa_cons (pv 0) (pa_cons (pv 2) pa_nil)))) pa_nil))), ?_⟩
  refine s_ret ok (ev_tupleOf (ev_lcR (k := 64) (c := 1) (pe := fun e => below most e = true) (ev_ivar rfl) (fun i e => by subst e; omega) (fun _ => rfl) (fun e he => imm_below he) (fun i H2 x q => ev_drawD rfl (ev_ivar rfl) b3 (by omega))) fun d ⟨i, es, _, e, _⟩ => ⟨es, .inr e⟩) fun v H1 x1 k1 ⟨d, hd, ds, e, e2⟩ => ?_
  rcases e with ⟨i, es, _, e, _⟩ | ⟨i, es, e1, e, e3, e4⟩
  · cases e
  · cases e
    subst e1 e2
    exact q v H1 _ x1 k1 hd ⟨_, most, rfl, isStates_of e3 e4⟩
/-! ### _law_falls -/
theorem sc_law_falls : FnScope ["purse", "many", "pace"] ["purse", "many"] (defScope s_law_falls) := ⟨rfl, rfl, rfl, by decide +kernel, rfl, by decide +kernel, by decide +kernel⟩
abbrev SpFalls (T : List (Addr × Str)) (K : PySem.W.Frag) : Sp := SpP T K 1 65 (fun ds => ∃ many : Int, ds = [.int many] ∧ 1 ≤ many ∧ many ≤ 64) (fun ds d => ∃ many : Int, ds = [.int many] ∧ isStates many many d = true)
theorem zeros_states {many : Int} (h : 1 ≤ many) : isStates many many (.tuple (List.replicate many.toNat [PyData.int 0]).flatten) = true := by
  refine isStates_of ?_ fun d hd => ?_
  · simp
    omega
  · obtain ⟨l, h1, h2⟩ := List.mem_flatten.mp hd
    rw [List.eq_of_mem_replicate h1] at h2
    rw [List.mem_singleton.mp h2]
    exact below_int (by decide) (by omega)
theorem range_states {many : Int} (h : 1 ≤ many) : isStates many many (.tuple ((List.range many.toNat).map fun j : Nat => PyData.int (j : Int))) = true := by
  refine isStates_of ?_ fun d hd => ?_
  · simp
    omega
  · obtain ⟨j, h1, rfl⟩ := List.mem_map.mp hd
    have := List.mem_range.mp h1
    exact below_int (by omega) (by omega)
theorem ok_law_falls (D : Def1 K mg "_law_falls" s_law_falls) (B : Bl mg) (C1 : Cal P w K mg base CX0 2 "_law_draw" ["purse", "out_of"] (SpDr T)) (C2 : Cal P w K mg base CX0 3 "_law_row" ["purse", "many", "most"] (SpRow T K)) : Cal P w K mg base CX0 4 "_law_falls" ["purse", "many"] (SpFalls T K) := by
  refine cal_of D sc_law_falls (fun _ _ _ _ _ _ us hl => match us, hl with | [_, _], _ => rfl) (fun vs H Q E h => h.1) (fun f cdv A outer s H vs Q E hr h => ?_)
  obtain ⟨_, a, k, us, ds, rfl, ok, hd, ⟨many, rfl, b1, b2⟩, q⟩ := h
  obtain ⟨v1, rfl, h1⟩ := dqa1 hd
  cases h1
  refine ⟨_, pss_cons (ps_set (i := 2) sc_law_falls.nd rfl (.inl rfl) (pe_cal C1 hr (by decide) (by rfl) pass0 (pa_cons (pv 0) (pa_cons pe_int pa_nil))))
    (pss_one (ps_ret (pe_ifExp (pt_cmpR op_eq (pv 2) pe_int (nomark _)) (pe_op op_repA (pe_tup (pa_cons pe_int pa_nil)) (pv 1))
      (pe_ifExp (pt_cmpR op_eq (pv 2) pe_int (nomark _)) (pe_tupRg rfl (by rfl) B.tuple (prg_1 (by rfl) B.range (pv 1))) (pe_cal C2 hr (by decide) (by rfl) pass0 (pa_cons (pv 0) (pa_cons (pv 1) (pa_cons (pv 1) pa_nil)))))))), ?_⟩
  refine q_asg (m := k + 64) ok (ev_draw rfl ev_int fun i e => by subst e; omega) fun v H1 x1 k1 ⟨pace, e, _⟩ => ?_
  subst e
  refine s_ret k1 (P := dP K (RP T a) fun d => isStates many many d = true) (ev_if (evt_test (ev_eqI (ev_ivar rfl) ev_int)) (fun _ => Ev.cost (k := k) ((ev_repA (ev_dtup (ps := [(· = .int 0)]) (eva_d ev_di eva_nil) (by show 1 ≤ 1000; decide)) (ev_ivar rfl) (fun d h => ?_) (fun i e => by subst e; omega)).imp fun v H' _ ⟨d, hd, ds, i, h, e, e2⟩ => ?_) (by omega)) fun _ => ev_if (evt_test (ev_eqI (ev_ivar rfl) ev_int)) (fun _ => Ev.cost ((ev_trg1 (K := K) (ev_ivar rfl) fun i e => by subst e; omega).imp fun v H' _ ⟨d, hd, i, h, e⟩ => ?_) (by omega)) fun _ => (ev_callP (ps := [(· = .int many), (· = .int many)]) rfl (eva_d (ev_dvar rfl (.int many)) (eva_d (ev_dvar rfl (.int many)) eva_nil)) rfl fun ds h => ?_).imp fun v H' _ ⟨d, hd, ds, h, many', most', e, e2⟩ => ?_) fun v H2 x2 k2 ⟨d, hd, e⟩ => ?_
  · obtain ⟨ds, rfl, _, _, rfl, rfl, rfl⟩ := h
    exact ⟨_, rfl, by simp, by simp⟩
  · obtain ⟨_, hh, _, _, rfl, rfl, rfl⟩ := h
    cases hh
    subst e e2
    exact ⟨_, hd, zeros_states b1⟩
  · subst h e
    exact ⟨_, hd, range_states b1⟩
  · obtain ⟨_, _, rfl, rfl, _, _, rfl, rfl, rfl⟩ := h
    exact ⟨_, _, rfl, b1, b2, b1, b2⟩
  · obtain ⟨_, _, rfl, rfl, _, _, rfl, rfl, rfl⟩ := h
    cases e
    exact ⟨d, hd, e2⟩
  · exact q v H2 d (x1.trans x2) k2 hd ⟨many, rfl, e⟩
/-! ### _law_letters -/
theorem sc_law_letters : FnScope ["purse", "many", "most", "lap"] ["purse", "many", "most"] (defScope s_law_letters) := ⟨rfl, rfl, rfl, by decide +kernel, rfl, by decide +kernel, by decide +kernel⟩
abbrev SpLet (T : List (Addr × Str)) (K : PySem.W.Frag) : Sp := SpP T K 2 128 (fun ds => ∃ many most : Int, ds = [.int many, .int most] ∧ 1 ≤ many ∧ many ≤ 64 ∧ 1 ≤ most ∧ most ≤ 64) (fun ds d => ∃ many most : Int, ds = [.int many, .int most] ∧ isGifts many most d = true)
theorem below_non {m : Int} {d : PyData} (h : below m d = true) : nonBelow m d = true := by cases d <;> first | exact h | cases h
theorem ok_law_letters (D : Def1 K mg "_law_letters" s_law_letters) (B : Bl mg) (C1 : Cal P w K mg base CX0 2 "_law_draw" ["purse", "out_of"] (SpDr T)) : Cal P w K mg base CX0 3 "_law_letters" ["purse", "many", "most"] (SpLet T K) := by
  refine cal_of D sc_law_letters (fun _ _ _ _ _ _ us hl => match us, hl with | [_, _, _], _ => rfl) (fun vs H Q E h => h.1) (fun f cdv A outer s H vs Q E hr h => ?_)
  obtain ⟨_, a, k, us, ds, rfl, ok, hd, ⟨many, most, rfl, b1, b2, b3, b4⟩, q⟩ := h
  obtain ⟨v1, v2, rfl, h1, h2⟩ := dqa2 hd
  cases h1
  cases h2
  refine ⟨_, pss_one (ps_ret (pe_callTy call_tuple_of (by rfl) B.tuple (by decide +kernel) (pa_cons (pe_lc (own := [("lap", 3)]) (g := gName 3) (tt := tYes) rfl sc_law_letters.nd (pi_range1 (by rfl) B.range (pa_cons (pv 1) pa_nil)) (blkOk_by (N := ["purse", "many", "most", "lap"]) (sc := defScope s_law_letters) (by decide +kernel))
        (fun _ _ _ _ _ => pg_name (i := 3) sc_law_letters.nd rfl (Or.inl rfl)) (fun _ _ _ _ _ => pts_nil) (fun _ _ _ _ _ => pe_ifExp (pt_cmpR op_eq (pe_cal C1 hr (by decide) (by rfl) pass0 (pa_cons (pv 0) (pa_cons pe_int pa_nil))) pe_int (nomark _)) pe_non (pe_cal C1 hr (by decide) (by rfl) pass0 (pa_cons (pv 0) (pa_cons (pv 2) pa_nil))))) pa_nil))), ?_⟩
  refine s_ret ok (ev_tupleOf (ev_lcR (k := 64) (c := 2) (pe := fun e => nonBelow most e = true) (ev_ivar rfl) (fun i e => by subst e; omega) (fun _ => rfl) (fun e he => imm_nonBelow he) (fun i H2 x q => ev_if (k := q + 1) (evt_test (ev_eqI (ev_draw rfl ev_int fun i e => by subst e; omega) ev_int)) (fun _ => Ev.cost (ev_dn.imp fun v H' _ ⟨d, hd, e⟩ => ⟨d, hd, by rw [e] <;> rfl⟩) (by omega)) fun _ => (ev_drawD rfl (ev_ivar rfl) b3 (by omega)).imp fun v H' _ ⟨d, hd, e⟩ => ⟨d, hd, below_non e⟩)) fun d ⟨i, es, _, e, _⟩ => ⟨es, .inr e⟩) fun v H1 x1 k1 ⟨d, hd, ds, e, e2⟩ => ?_
  rcases e with ⟨i, es, _, e, _⟩ | ⟨i, es, e1, e, e3, e4⟩
  · cases e
  · cases e
    subst e1 e2
    exact q v H1 _ x1 k1 hd ⟨_, most, rfl, isGifts_of e3 e4⟩
end
end LW

set_option Elab.async false
set_option linter.all false
set_option maxRecDepth 100000
set_option maxHeartbeats 4000000
namespace LW
open PySem PySem.Spec PyProof.Rows L2 LamX NdefX WE WLam
section
variable {K : PySem.W.Frag} {R : Rs} {σ : L2.St} {H : Hp} {n m k : Nat} {te ta tb : TE} {v : V} {d : PyData} {ds : List PyData} {i : Nat} {pl : List PyData → Prop}
/-- an item of a tuple in a slot -/
theorem ev_at (h : σ[i]? = some (some v)) (hd : Dq K R.M H v (.tuple ds)) {z : Int} (j : Nat) (hz : z = (j : Int)) (hj : ds[j]? = some d) : Ev R n n (tOp (rIx K) (tVar i) (tC (.int z))) σ H (dP K R (· = d)) := by
  subst hz
  refine (ev_ix (ev_dvar h hd) ev_int fun d' i' e1 e2 => ⟨ds, j, d, .inl e1, e2, hj⟩).imp fun v H' _ ⟨e, he, d', ds', j', e1, e2, e3, e4⟩ => ⟨e, he, ?_⟩
  subst e1
  have e2 : (j' : Int) = (j : Int) := e2
  have e2 : j' = j := by omega
  subst e2
  rcases e3 with e3 | e3
  · cases e3
    rw [hj] at e4
    exact (Option.some.inj e4).symm
  · cases e3
theorem ev_lvar (h : σ[i]? = some (some v)) (hv : (lP K R pl).r v H) : Ev R n n (tVar i) σ H (lP K R pl) := ev_var h hv
/-- a slice of a list, its ends written -/
theorem ev_slTo {z : Int} (h : Ev R n m te σ H (lP K R pl)) : Ev R n m (tSl (rSlL K) te tNoPart (tPart (tC (.int z)))) σ H (lP K R fun es => ∃ ds, pl ds ∧ es = WE.cutD ds none (some z)) := fun H1 x1 k1 Q q =>
  h H1 x1 k1 _ fun v H2 x2 k2 ⟨a, xs, ds, e, hn, h, d, p⟩ => by
    subst e
    refine ⟨z, rfl, a, xs, rfl, .inl (.inl h), fun p hp => ?_⟩
    have xn : Xt R H2 (upd H2 p (.lst (cutV xs none (some z)))) := .new hp
    exact q _ _ (x2.trans xn) (k2.new hp) ⟨p, _, _, rfl, k2.fresh hp, upd_same, (cut_data d).mono xn, ds, ‹_›, rfl⟩
theorem ev_slFrom {z : Int} (h : Ev R n m te σ H (lP K R pl)) : Ev R n m (tSl (rSlL K) te (tPart (tC (.int z))) tNoPart) σ H (lP K R fun es => ∃ ds, pl ds ∧ es = WE.cutD ds (some z) none) := fun H1 x1 k1 Q q =>
  h H1 x1 k1 _ fun v H2 x2 k2 ⟨a, xs, ds, e, hn, h, d, p⟩ => by
    subst e
    refine ⟨z, rfl, a, xs, rfl, .inl (.inl h), fun p hp => ?_⟩
    have xn : Xt R H2 (upd H2 p (.lst (cutV xs (some z) none))) := .new hp
    exact q _ _ (x2.trans xn) (k2.new hp) ⟨p, _, _, rfl, k2.fresh hp, upd_same, (cut_data d).mono xn, ds, ‹_›, rfl⟩
end
theorem cut_head {d : PyData} {ds : List PyData} : WE.cutD (d :: ds) none (some 1) = [d] := by
  unfold WE.cutD HT.sIx
  simp
theorem cut_tail {d : PyData} {ds : List PyData} : WE.cutD (d :: ds) (some 1) none = ds := by
  unfold WE.cutD HT.sIx
  simp
section
variable {P : Program} {w : World} {K : PySem.W.Frag} {mg : Str → Option Value} {base : Heap} {T : List (Addr × Str)}
/-! ### the law's makers of tables -/
structure Lw (P : Program) (w : World) (K : PySem.W.Frag) (mg : Str → Option Value) (base : Heap) (T : List (Addr × Str)) : Prop where
  draw : Cal P w K mg base CX0 2 "_law_draw" ["purse", "out_of"] (SpDr T)
  row : Cal P w K mg base CX0 3 "_law_row" ["purse", "many", "most"] (SpRow T K)
  falls : Cal P w K mg base CX0 4 "_law_falls" ["purse", "many"] (SpFalls T K)
  letters : Cal P w K mg base CX0 3 "_law_letters" ["purse", "many", "most"] (SpLet T K)
def szs (a b c : Int) : PyData := .tuple [.int a, .int b, .int c]
def Sizes (a b c : Int) : Prop := (1 ≤ a ∧ a ≤ 64) ∧ (1 ≤ b ∧ b ≤ 64) ∧ (1 ≤ c ∧ c ≤ 64)
theorem sc_law_sender : FnScope ["purse", "sizes", "top", "many", "heard", "taken", "steps", "lap", "one"] ["purse", "sizes", "top"] (defScope s_law_sender) := ⟨rfl, rfl, rfl, by decide +kernel, rfl, by decide +kernel, by decide +kernel⟩
/-- what a sender's tables are -/
def RawS (a b c : Int) (d : PyData) : Prop := ∃ s t h k r, d = .tuple [.tuple s, .tuple t, .tuple h, .tuple k, .tuple r] ∧ OkS a b c s t h k r ∧ s.length ≤ 64
def RawR (a b c : Int) (d : PyData) : Prop := ∃ s t h g r, d = .tuple [.tuple s, .tuple t, .tuple h, .tuple g, .tuple r] ∧ OkR a b c s t h g r ∧ s.length ≤ 64
abbrev SpLS (T : List (Addr × Str)) (K : PySem.W.Frag) : Sp := SpP T K 2 20000 (fun ds => ∃ a b c top : Int, ds = [szs a b c, .int top] ∧ Sizes a b c ∧ 1 ≤ top ∧ top ≤ 63) (fun ds d => ∃ a b c top : Int, ds = [szs a b c, .int top] ∧ RawS a b c d)
theorem states_inv {n m : Int} {d : PyData} (h : isStates n m d = true) : ∃ ds, d = .tuple ds ∧ (ds.length : Int) = n ∧ ∀ e ∈ ds, below m e = true := by
  cases d with
  | tuple ds =>
    have h : (decide ((ds.length : Int) = n) && ds.all (below m)) = true := h
    obtain ⟨h1, h2⟩ := Bool.and_eq_true_iff.mp h
    exact ⟨ds, rfl, of_decide_eq_true h1, List.all_eq_true.mp h2⟩
  | _ => cases h
theorem gifts_inv {n m : Int} {d : PyData} (h : isGifts n m d = true) : ∃ ds, d = .tuple ds ∧ (ds.length : Int) = n ∧ ∀ e ∈ ds, nonBelow m e = true := by
  cases d with
  | tuple ds =>
    have h : (decide ((ds.length : Int) = n) && ds.all (nonBelow m)) = true := h
    obtain ⟨h1, h2⟩ := Bool.and_eq_true_iff.mp h
    exact ⟨ds, rfl, of_decide_eq_true h1, List.all_eq_true.mp h2⟩
  | _ => cases h
theorem ne_len {es : List PyData} {many : Int} (h : (es.length : Int) = many) (h1 : 1 ≤ many) : ∃ e0 er, es = e0 :: er := by
  cases es with
  | nil =>
    rw [← h] at h1
    exact absurd h1 (by decide)
  | cons a b => exact ⟨a, b, rfl⟩
theorem take_of {n m : Int} {d : PyData} (h : isStates n m d = true) (hn : n ≤ 64) : isTake n m d = true ∧ slim d := by
  refine ⟨by unfold isTake; rw [h, Bool.or_true], fun ds e => ?_⟩
  obtain ⟨ds', e2, e3, _⟩ := states_inv h
  subst e
  cases e2
  omega
theorem ev_row {a : Addr} {σ : L2.St} {H : Hp} {n k m i : Nat} {t1 t2 : TE} {x y : Int} (hv : σ[i]? = some (some (.ref a))) (h1 : Ev (RP T a) n k t1 σ H (dP K (RP T a) (· = .int x))) (h2 : Ev (RP T a) k (m + 64) t2 σ H (dP K (RP T a) (· = .int y))) (hx : 1 ≤ x ∧ x ≤ 64) (hy : 1 ≤ y ∧ y ≤ 64) :
    Ev (RP T a) n m (tCall (SpRow T K) [] E0 (tCons (tVar i) (tCons t1 (tCons t2 tNil)))) σ H (dP K (RP T a) fun d => isStates x y d = true) :=
  (ev_callP (ps := [(· = .int x), (· = .int y)]) hv (eva_d h1 (eva_d h2 eva_nil)) rfl fun ds h => by
    obtain ⟨_, _, rfl, rfl, _, _, rfl, rfl, rfl⟩ := h
    exact ⟨_, _, rfl, hx.1, hx.2, hy.1, hy.2⟩).imp fun v H' _ ⟨d, hd, ds, h, x', y', e, e2⟩ => by
    obtain ⟨_, _, rfl, rfl, _, _, rfl, rfl, rfl⟩ := h
    cases e
    exact ⟨d, hd, e2⟩
theorem ev_letters {a : Addr} {σ : L2.St} {H : Hp} {n k m i : Nat} {t1 t2 : TE} {x y : Int} (hv : σ[i]? = some (some (.ref a))) (h1 : Ev (RP T a) n k t1 σ H (dP K (RP T a) (· = .int x))) (h2 : Ev (RP T a) k (m + 128) t2 σ H (dP K (RP T a) (· = .int y))) (hx : 1 ≤ x ∧ x ≤ 64) (hy : 1 ≤ y ∧ y ≤ 64) :
    Ev (RP T a) n m (tCall (SpLet T K) [] E0 (tCons (tVar i) (tCons t1 (tCons t2 tNil)))) σ H (dP K (RP T a) fun d => isGifts x y d = true) :=
  (ev_callP (ps := [(· = .int x), (· = .int y)]) hv (eva_d h1 (eva_d h2 eva_nil)) rfl fun ds h => by
    obtain ⟨_, _, rfl, rfl, _, _, rfl, rfl, rfl⟩ := h
    exact ⟨_, _, rfl, hx.1, hx.2, hy.1, hy.2⟩).imp fun v H' _ ⟨d, hd, ds, h, x', y', e, e2⟩ => by
    obtain ⟨_, _, rfl, rfl, _, _, rfl, rfl, rfl⟩ := h
    cases e
    exact ⟨d, hd, e2⟩
theorem ev_falls {a : Addr} {σ : L2.St} {H : Hp} {n m i : Nat} {t1 : TE} {x : Int} (hv : σ[i]? = some (some (.ref a))) (h1 : Ev (RP T a) n (m + 65) t1 σ H (dP K (RP T a) (· = .int x))) (hx : 1 ≤ x ∧ x ≤ 64) :
    Ev (RP T a) n m (tCall (SpFalls T K) [] E0 (tCons (tVar i) (tCons t1 tNil))) σ H (dP K (RP T a) fun d => isStates x x d = true) :=
  (ev_callP (ps := [(· = .int x)]) hv (eva_d h1 eva_nil) rfl fun ds h => by
    obtain ⟨_, _, rfl, rfl, rfl⟩ := h
    exact ⟨_, rfl, hx.1, hx.2⟩).imp fun v H' _ ⟨d, hd, ds, h, x', e, e2⟩ => by
    obtain ⟨_, _, rfl, rfl, rfl⟩ := h
    cases e
    exact ⟨d, hd, e2⟩
/-- steps: each state itself, or drawn -/
theorem ev_steps {a : Addr} {σ : L2.St} {H : Hp} {m i j : Nat} {x : Int} (hv : σ[i]? = some (some (.ref a))) (hj : σ[j]? = some (some (.int x))) (hx : 1 ≤ x ∧ x ≤ 64) :
    Ev (RP T a) (m + 65) m (tIf (tTest (tOp rEq (tCall (SpDr T) [] E0 (tCons (tVar i) (tCons (tC (.int 2)) tNil))) (tC (.int 0)))) (tTupRg (tRg1 (tVar j))) (tCall (SpRow T K) [] E0 (tCons (tVar i) (tCons (tVar j) (tCons (tVar j) tNil))))) σ H (dP K (RP T a) fun d => isStates x x d = true) :=
  ev_if (k := m + 64) (evt_test (ev_eqI (ev_draw hv ev_int fun i e => by subst e; omega) ev_int)) (fun _ => Ev.cost ((ev_trg1 (K := K) (ev_ivar hj) fun i e => by subst e; omega).imp fun v H' _ ⟨d, hd, i, h, e⟩ => by
    subst h e
    exact ⟨_, hd, range_states hx.1⟩) (by omega)) fun _ => ev_row hv (ev_dvar hj (.int x)) (ev_dvar hj (.int x)) hx hx
theorem ok_law_sender (D : Def1 K mg "_law_sender" s_law_sender) (B : Bl mg) (L : Lw P w K mg base T) : Cal P w K mg base CX0 5 "_law_sender" ["purse", "sizes", "top"] (SpLS T K) := by
  refine cal_of D sc_law_sender (fun _ _ _ _ _ _ us hl => match us, hl with | [_, _, _], _ => rfl) (fun vs H Q E h => h.1) (fun f cdv A outer s H vs Q E hr h => ?_)
  obtain ⟨_, p, kk, us, ds, rfl, ok, hd, ⟨a, b, c, top, rfl, ⟨ha, hb, hc⟩, t1, t2⟩, q⟩ := h
  obtain ⟨v1, v2, rfl, h1, h2⟩ := dqa2 hd
  cases h2
  refine ⟨_, pss_cons (ps_set (i := 3) sc_law_sender.nd rfl (.inr rfl) (pe_op op_add pe_int (pe_cal L.draw hr (by decide) (by rfl) pass0 (pa_cons (pv 0) (pa_cons (pv 2) pa_nil)))))
    (pss_cons (ps_set (i := 4) sc_law_sender.nd rfl (.inl rfl) (pe_callTy call_tuple_of (by rfl) B.tuple (by decide +kernel) (pa_cons (pe_lc (own := [("lap", 7)]) (g := gName 7) (tt := tYes) rfl sc_law_sender.nd (pi_range1 (by rfl) B.range (pa_cons (pv 3) pa_nil)) (blkOk_by (N := ["purse", "sizes", "top", "many", "heard", "taken", "steps", "lap", "one"]) (sc := defScope s_law_sender) (by decide +kernel))
        (fun _ _ _ _ _ => pg_name (i := 7) sc_law_sender.nd rfl (Or.inl rfl)) (fun _ _ _ _ _ => pts_nil) (fun _ _ _ _ _ => pe_cal L.row hr (by decide) (by rfl) pass0 (pa_cons (pv 0) (pa_cons (pe_ix (r := rIx K) ix_seq (pv 1) pe_int (fun _ _ => rfl)) (pa_cons (pv 3) pa_nil))))) pa_nil)))
    (pss_cons (ps_setLc (i := 5) (own := [("lap", 7)]) (g := gName 7) (tt := tYes) (by rfl) sc_law_sender.nd rfl rfl (sw_true rfl rfl rfl (by decide +kernel)) (pi_range1 (by rfl) B.range (pa_cons (pv 3) pa_nil)) (blkOk_by (N := ["purse", "sizes", "top", "many", "heard", "taken", "steps", "lap", "one"]) (sc := defScope s_law_sender) (by decide +kernel))
        (fun _ _ _ _ _ => pg_name (i := 7) sc_law_sender.nd rfl (Or.inl rfl)) (fun _ _ _ _ _ => pts_nil) (fun _ _ _ _ _ => pe_cal L.row hr (by decide) (by rfl) pass0 (pa_cons (pv 0) (pa_cons (pe_ix (r := rIx K) ix_seq (pv 1) pe_int (fun _ _ => rfl)) (pa_cons (pv 3) pa_nil)))))
    (pss_cons (ps_set (i := 5) sc_law_sender.nd rfl (.inl rfl) (pe_op op_cat (pe_slice sl_list (pv 5) po_none (po_some pe_int)) (pe_lc (own := [("one", 8)]) (g := gName 8) (tt := tYes) rfl sc_law_sender.nd (pi_list (pe_slice sl_list (pv 5) (po_some pe_int) po_none)) (blkOk_by (N := ["purse", "sizes", "top", "many", "heard", "taken", "steps", "lap", "one"]) (sc := defScope s_law_sender) (by decide +kernel))
        (fun _ _ _ _ _ => pg_name (i := 8) sc_law_sender.nd rfl (Or.inl rfl)) (fun _ _ _ _ _ => pts_nil) (fun _ _ _ _ _ => pe_ifExp (pt_cmpR op_eq (pe_cal L.draw hr (by decide) (by rfl) pass0 (pa_cons (pv 0) (pa_cons pe_int pa_nil))) pe_int (nomark _)) pe_non (pv 8)))))
    (pss_cons (ps_set (i := 6) sc_law_sender.nd rfl (.inl rfl) (pe_ifExp (pt_cmpR op_eq (pe_cal L.draw hr (by decide) (by rfl) pass0 (pa_cons (pv 0) (pa_cons pe_int pa_nil))) pe_int (nomark _)) (pe_tupRg rfl (by rfl) B.tuple (prg_1 (by rfl) B.range (pv 3))) (pe_cal L.row hr (by decide) (by rfl) pass0 (pa_cons (pv 0) (pa_cons (pv 3) (pa_cons (pv 3) pa_nil))))))
    (pss_one (ps_ret (pe_tup (pa_cons (pe_cal L.letters hr (by decide) (by rfl) pass0 (pa_cons (pv 0) (pa_cons (pv 3) (pa_cons (pe_ix (r := rIx K) ix_seq (pv 1) pe_int (fun _ _ => rfl)) pa_nil))))
      (pa_cons (pv 6) (pa_cons (pv 4) (pa_cons (pe_callTy call_tuple_of (by rfl) B.tuple (by decide +kernel) (pa_cons (pv 5) pa_nil)) (pa_cons (pe_cal L.falls hr (by decide) (by rfl) pass0 (pa_cons (pv 0) (pa_cons (pv 3) pa_nil))) pa_nil)))))))))))), ?_⟩
  refine q_asg (m := kk + 19999) (P := iP (RP T p) fun z => 1 ≤ z ∧ z ≤ 64) ok (ev_I0 ev_int (ev_draw rfl (ev_ivar rfl) fun i e => by subst e; omega) fun i j H e1 e2 => ⟨_, rfl, ?_⟩) fun v H1 x1 k1 ⟨many, e, hm⟩ => ?_
  · obtain ⟨z, e3, e4, e5⟩ := e2
    subst e1 e3
    omega
  · subst e
    have hs1 := h1.mono x1
    refine q_asg (m := kk + 15903) (P := dP K (RP T p) fun d => ∃ es, d = .tuple es ∧ (es.length : Int) = many ∧ ∀ e ∈ es, isStates c many e = true) k1 ((ev_tupleOf (ev_lcR (k := 64) (c := 64) (pe := fun e => isStates c many e = true) (ev_ivar rfl) (fun i e => by subst e; omega) (fun _ => rfl) (fun e he => imm_states he) (fun i H2 x q => ev_row rfl (ev_at rfl (hs1.mono x) 2 rfl rfl) (ev_dvar rfl (.int many)) hc hm)) fun d ⟨i, es, _, e, _⟩ => ⟨es, .inr e⟩).imp fun v H' _ ⟨d, hd, ds, e, e2⟩ => ⟨d, hd, ?_⟩) fun v4 H2 x2 k2 ⟨d4, hd4, h, e4, hhl, hhi⟩ => ?_
    · rcases e with ⟨i, es, _, e, _⟩ | ⟨i, es, e1, e, e3, e4⟩
      · cases e
      · cases e
        subst e1
        exact ⟨_, e2, e3, e4⟩
    · subst e4
      have hs2 := hs1.mono x2
      refine q_asg (m := kk + 11807) (P := lP K (RP T p) fun es => (es.length : Int) = many ∧ ∀ e ∈ es, isStates a many e = true) k2 ((ev_lcRL (k := 64) (c := 64) (pe := fun e => isStates a many e = true) (ev_ivar rfl) (fun i e => by subst e; omega) (fun _ => rfl) (fun e he => imm_states he) (fun i H2 x q => ev_row rfl (ev_at rfl (hs2.mono x) 0 rfl rfl) (ev_dvar rfl (.int many)) ha hm)).imp fun v H' _ ⟨a, xs, es, e, hn, hp, hd, i, e2, e3, e4⟩ => ⟨a, xs, es, e, hn, hp, hd, by subst e2; exact e3, e4⟩) fun v5 H3 x3 k3 hl5 => ?_
      refine q_asg (m := kk + 11743) (P := lP K (RP T p) fun es => (es.length : Int) = many ∧ (∃ k0 ks, es = k0 :: ks ∧ isNonD k0 = false) ∧ ∀ e ∈ es, isTake a many e = true ∧ slim e) k3 ((ev_catL (k := kk + 11807) (ev_slTo (ev_lvar rfl hl5)) (ev_lcLL (k := 64) (c := 1) (pe := fun d e => isTake a many e = true ∧ slim e) (ev_ofL (ev_slFrom (ev_lvar rfl hl5))) (fun d ⟨ds, e, es, hh, e2⟩ => ?_) (fun _ => rfl) (fun d e he => imm_take he.1) (fun ds i d v H2 ⟨ds', e, es, hh, e2⟩ hi x hv q => ?_)) (fun ds ⟨es, hh, e⟩ => ?_) (fun ds ⟨es, hh, e⟩ => ?_)).imp fun v H' _ ⟨aa, xs, es, e, hn, hp, hd, ds, fs, ⟨es1, hh, e2⟩, ⟨_, ⟨ds2, rfl, es2, hh2, e4⟩, hfl, hfe⟩, e3⟩ => ⟨aa, xs, es, e, hn, hp, hd, ?_⟩) fun v5' H4 x4 k4 hl6 => ?_
      · obtain ⟨e0, er, rfl⟩ := ne_len hh.1 hm.1
        obtain ⟨f0, fr, rfl⟩ := ne_len hh2.1 hm.1
        rw [cut_head] at e2
        rw [cut_tail] at e4
        subst e2 e4 e3
        have hl2 := hh2.1
        rw [List.length_cons] at hl2
        refine ⟨?_, ⟨e0, fs, rfl, ?_⟩, fun e he => ?_⟩
        · show ((e0 :: fs).length : Int) = many
          rw [List.length_cons, hfl]
          exact hl2
        · obtain ⟨ds, e, _⟩ := states_inv (hh.2 e0 (List.mem_cons_self ..))
          rw [e]
          rfl
        · have he : e ∈ e0 :: fs := he
          rcases List.mem_cons.mp he with he | he
          · rw [he]
            exact take_of (hh.2 _ (List.mem_cons_self ..)) ha.2
          · obtain ⟨i, hi⟩ := List.mem_iff_getElem?.mp he
            have hlt : i < ds2.length := by
              rw [← hfl]
              exact (List.getElem?_eq_some_iff.mp hi).1
            exact hfe i _ e (List.getElem?_eq_getElem hlt) hi
      · obtain ⟨e0, er, rfl⟩ := ne_len hh.1 hm.1
        subst e
        rw [cut_tail] at e2
        subst e2
        have hl := hh.1
        rw [List.length_cons] at hl
        exact ⟨_, rfl, by omega, by omega⟩
      · cases e
        obtain ⟨e0, er, rfl⟩ := ne_len hh.1 hm.1
        rw [cut_tail] at e2
        subst e2
        have hd1 : isStates a many d = true := hh.2 d (List.mem_cons_of_mem _ (List.mem_of_getElem? hi))
        refine ev_if (k := q) (evt_test (ev_eqI (ev_draw rfl ev_int fun i e => by subst e; omega) ev_int)) (fun _ => ev_dn.imp fun v H' _ ⟨d, hd, e⟩ => ⟨d, hd, by rw [e] <;> rfl, by rw [e]; exact fun ds z => nomatch z⟩) fun _ => (ev_dvar rfl hv).imp fun v H' _ ⟨d', hd, e⟩ => ⟨d', hd, ?_⟩
        rw [e]
        exact take_of hd1 ha.2
      · obtain ⟨e0, er, rfl⟩ := ne_len hh.1 hm.1
        rw [cut_head] at e
        rw [e]
        show 1 ≤ 100000
        decide
      · obtain ⟨ds2, e0, es2, hh2, e4⟩ := hh
        cases e0
        obtain ⟨f0, fr, rfl⟩ := ne_len hh2.1 hm.1
        rw [cut_tail] at e4
        have hl2 := hh2.1
        rw [List.length_cons, ← e4] at hl2
        have := e.1
        omega
      · refine q_asg (m := kk + 11678) k4 (ev_steps rfl rfl hm) fun v6 H5 x5 k5 ⟨d6, hd6, h6⟩ => ?_
        obtain ⟨t, rfl, tl, ht⟩ := states_inv h6
        have hs5 := ((hs2.mono x3).mono x4).mono x5
        have hd45 := ((hd4.mono x3).mono x4).mono x5
        have hl65 := (lP K (RP T p) fun es => (es.length : Int) = many ∧ (∃ k0 ks, es = k0 :: ks ∧ isNonD k0 = false) ∧ ∀ e ∈ es, isTake a many e = true ∧ slim e).mono _ _ _ x5 hl6
        refine s_ret k5 (ev_dtup (ps := [fun d => isGifts many b d = true, (· = .tuple t), (· = .tuple h), fun d => ∃ ks : List PyData, d = .tuple ks ∧ (ks.length : Int) = many ∧ (∃ k0 kr, ks = k0 :: kr ∧ isNonD k0 = false) ∧ ∀ e ∈ ks, isTake a many e = true ∧ slim e, fun d => isStates many many d = true])
          (eva_d (ev_letters rfl (ev_dvar rfl (.int many)) (ev_at rfl hs5 1 rfl rfl) hm hb) (eva_d (ev_dvar rfl hd6) (eva_d (ev_dvar rfl hd45) (eva_d ((ev_tupleOf (ev_ofL (ev_lvar rfl hl65)) fun d ⟨ds, e, _⟩ => ⟨ds, .inr e⟩).imp fun v H' _ ⟨d, hd, ds, e, e2⟩ => ⟨d, hd, ?_⟩) (eva_d (ev_falls rfl (ev_dvar rfl (.int many)) hm) eva_nil))))) (by show 5 ≤ 1000; decide)) fun v H6 x6 k6 ⟨d, hd, ds, e, hall⟩ => ?_
        · rcases e with ⟨_, e, _⟩ | ⟨ds', e, e3⟩
          · cases e
          · cases e
            exact ⟨ds, e2, e3⟩
        · obtain ⟨_, _, rfl, g1, _, _, rfl, rfl, _, _, rfl, rfl, _, _, rfl, ⟨ks, rfl, kl, k0, k_⟩, _, _, rfl, g5, rfl⟩ := hall
          obtain ⟨s', rfl, sl, s_⟩ := gifts_inv g1
          obtain ⟨r', rfl, rl, r_⟩ := states_inv g5
          subst e
          refine q v H6 _ ((((x1.trans x2).trans x3).trans x4).trans (x5.trans x6)) (k6.mono (by omega)) hd ⟨a, b, c, top, rfl, s', t, h, ks, r', rfl, ?_, by omega⟩
          subst sl
          exact ⟨ha.1, hb.1, hc.1, fun z => by
            rw [z] at hm
            exact absurd hm.1 (by decide), by omega, by omega, by omega, by omega, s_, ht, fun it hi => ⟨hhi it hi, (take_of (hhi it hi) hc.2).2⟩, k0, k_, r_⟩
end
end LW

set_option Elab.async false
set_option linter.all false
set_option maxRecDepth 100000
set_option maxHeartbeats 4000000
namespace LW
open PySem PySem.Spec PyProof.Rows L2 LamX NdefX WE WLam
section
variable {P : Program} {w : World} {K : PySem.W.Frag} {mg : Str → Option Value} {base : Heap} {T : List (Addr × Str)}
theorem gift_slim {n m : Int} {d : PyData} (h : isGifts n m d = true) (hn : n ≤ 64) : isGifts n m d = true ∧ slim d := by
  refine ⟨h, fun ds e => ?_⟩
  obtain ⟨ds', e2, e3, _⟩ := gifts_inv h
  subst e
  cases e2
  omega
theorem sc_law_receiver : FnScope ["purse", "sizes", "top", "many", "heard", "given_out", "lap", "row", "steps", "kind"] ["purse", "sizes", "top"] (defScope s_law_receiver) := ⟨rfl, rfl, rfl, by decide +kernel, rfl, by decide +kernel, by decide +kernel⟩
abbrev SpLR (T : List (Addr × Str)) (K : PySem.W.Frag) : Sp := SpP T K 2 20000 (fun ds => ∃ a b c top : Int, ds = [szs a b c, .int top] ∧ Sizes a b c ∧ 1 ≤ top ∧ top ≤ 63) (fun ds d => ∃ a b c top : Int, ds = [szs a b c, .int top] ∧ RawR a b c d)
theorem ok_law_receiver (D : Def1 K mg "_law_receiver" s_law_receiver) (B : Bl mg) (L : Lw P w K mg base T) : Cal P w K mg base CX0 5 "_law_receiver" ["purse", "sizes", "top"] (SpLR T K) := by
  refine cal_of D sc_law_receiver (fun _ _ _ _ _ _ us hl => match us, hl with | [_, _, _], _ => rfl) (fun vs H Q E h => h.1) (fun f cdv A outer s H vs Q E hr h => ?_)
  obtain ⟨_, p, kk, us, ds, rfl, ok, hd, ⟨a, b, c, top, rfl, ⟨ha, hb, hc⟩, t1, t2⟩, q⟩ := h
  obtain ⟨v1, v2, rfl, h1, h2⟩ := dqa2 hd
  cases h2
  refine ⟨_, pss_cons (ps_set (i := 3) sc_law_receiver.nd rfl (by first | exact .inl rfl | exact .inr rfl) (pe_op op_add pe_int (pe_cal L.draw hr (by decide) (by rfl) pass0 (pa_cons (pv 0) (pa_cons (pv 2) pa_nil)))))
    (pss_cons (ps_set (i := 4) sc_law_receiver.nd rfl (.inl rfl) (pe_callTy call_tuple_of (by rfl) B.tuple (by decide +kernel) (pa_cons (pe_lc (own := [("lap", 6)]) (g := gName 6) (tt := tYes) rfl sc_law_receiver.nd (pi_range1 (by rfl) B.range (pa_cons (pv 3) pa_nil)) (blkOk_by (N := ["purse", "sizes", "top", "many", "heard", "given_out", "lap", "row", "steps", "kind"]) (sc := defScope s_law_receiver) (by decide +kernel))
        (fun _ _ _ _ _ => pg_name (i := 6) sc_law_receiver.nd rfl (Or.inl rfl)) (fun _ _ _ _ _ => pts_nil) (fun _ _ _ _ _ => pe_cal L.row hr (by decide) (by rfl) pass0 (pa_cons (pv 0) (pa_cons (pe_ix (r := rIx K) ix_seq (pv 1) pe_int (fun _ _ => rfl)) (pa_cons (pv 3) pa_nil))))) pa_nil)))
    (pss_cons (ps_set (i := 5) sc_law_receiver.nd rfl (.inl rfl) (pe_lst pa_nil))
    (pss_cons (ps_for PassesOwn.never rfl (pi_range1 (by rfl) B.range (pa_cons (pv 3) pa_nil)) (pg_name (i := 6) sc_law_receiver.nd rfl (.inl rfl))
      (pss_cons (ps_setLc (i := 7) (own := [("kind", 9)]) (g := gName 9) (tt := tYes) (by rfl) sc_law_receiver.nd rfl rfl (sw_true rfl rfl rfl (by decide +kernel)) (pi_range1 (by rfl) B.range (pa_cons (pe_ix (r := rIx K) ix_seq (pv 1) pe_int (fun _ _ => rfl)) pa_nil)) (blkOk_by (N := ["purse", "sizes", "top", "many", "heard", "given_out", "lap", "row", "steps", "kind"]) (sc := defScope s_law_receiver) (by decide +kernel))
        (fun _ _ _ _ _ => pg_name (i := 9) sc_law_receiver.nd rfl (Or.inl rfl)) (fun _ _ _ _ _ => pts_nil) (fun _ _ _ _ _ => pe_ifExp (pt_cmpR op_gt (pe_cal L.draw hr (by decide) (by rfl) pass0 (pa_cons (pv 0) (pa_cons pe_int pa_nil))) pe_int (nomark _)) pe_non (pe_cal L.draw hr (by decide) (by rfl) pass0 (pa_cons (pv 0) (pa_cons (pe_ix (r := rIx K) ix_seq (pv 1) pe_int (fun _ _ => rfl)) pa_nil)))))
      (pss_one (ps_expr (pe_bm PySem.F.plainAttrs_list PySem.F.slot_list_append PySem.F.type_list_append mt_append (pv 5) (pa_cons (pe_callTy call_tuple_of (by rfl) B.tuple (by decide +kernel) (pa_cons (pv 7) pa_nil)) pa_nil))))))
    (pss_cons (ps_set (i := 8) sc_law_receiver.nd rfl (.inl rfl) (pe_ifExp (pt_cmpR op_eq (pe_cal L.draw hr (by decide) (by rfl) pass0 (pa_cons (pv 0) (pa_cons pe_int pa_nil))) pe_int (nomark _)) (pe_tupRg rfl (by rfl) B.tuple (prg_1 (by rfl) B.range (pv 3))) (pe_cal L.row hr (by decide) (by rfl) pass0 (pa_cons (pv 0) (pa_cons (pv 3) (pa_cons (pv 3) pa_nil))))))
    (pss_one (ps_ret (pe_tup (pa_cons (pe_cal L.letters hr (by decide) (by rfl) pass0 (pa_cons (pv 0) (pa_cons (pv 3) (pa_cons (pe_ix (r := rIx K) ix_seq (pv 1) pe_int (fun _ _ => rfl)) pa_nil))))
      (pa_cons (pv 8) (pa_cons (pv 4) (pa_cons (pe_callTy call_tuple_of (by rfl) B.tuple (by decide +kernel) (pa_cons (pv 5) pa_nil)) (pa_cons (pe_cal L.falls hr (by decide) (by rfl) pass0 (pa_cons (pv 0) (pa_cons (pv 3) pa_nil))) pa_nil)))))))))))), ?_⟩
  refine q_asg (m := kk + 19999) (P := iP (RP T p) fun z => 1 ≤ z ∧ z ≤ 64) ok (ev_I0 ev_int (ev_draw rfl (ev_ivar rfl) fun i e => by subst e; omega) fun i j H e1 e2 => ⟨_, rfl, ?_⟩) fun v H1 x1 k1 ⟨many, e, hm⟩ => ?_
  · obtain ⟨z, e3, e4, e5⟩ := e2
    subst e1 e3
    omega
  · subst e
    have hs1 := h1.mono x1
    refine q_asg (m := kk + 15903) (P := dP K (RP T p) fun d => ∃ es, d = .tuple es ∧ (es.length : Int) = many ∧ ∀ e ∈ es, isStates b many e = true) k1 ((ev_tupleOf (ev_lcR (k := 64) (c := 64) (pe := fun e => isStates b many e = true) (ev_ivar rfl) (fun i e => by subst e; omega) (fun _ => rfl) (fun e he => imm_states he) (fun i H2 x q => ev_row rfl (ev_at rfl (hs1.mono x) 1 rfl rfl) (ev_dvar rfl (.int many)) hb hm)) fun d ⟨i, es, _, e, _⟩ => ⟨es, .inr e⟩).imp fun v H' _ ⟨d, hd, ds, e, e2⟩ => ⟨d, hd, ?_⟩) fun v4 H2 x2 k2 ⟨d4, hd4, h, e4, hhl, hhi⟩ => ?_
    · rcases e with ⟨i, es, _, e, _⟩ | ⟨i, es, e1, e, e3, e4⟩
      · cases e
      · cases e
        subst e1
        exact ⟨_, e2, e3, e4⟩
    · subst e4
      have hs2 := hs1.mono x2
      refine q_acc0 (K := K) k2 fun D H3 k3 A3 => ?_
      refine q_rng k3 (ev_ivar (z := many) rfl) (fun i e => by subst e; omega) fun i H4 e x4 k4 => ?_
      subst e
      refine ⟨fun j σ' H' => ∃ y6 y7 es, σ' = [some (.ref p), some v1, some (.int top), some (.int i), some v4, some (.ref D), y6, y7, none, none] ∧ Ok (RP T p) (kk + 7711 + (i.toNat - j) * 128) H' ∧ AccAt K (RP T p) H2 D es H' ∧ es.length = j ∧ ∀ e ∈ es, isGifts b a e = true ∧ slim e,
        ⟨none, none, [], rfl, k4.mono (by omega), A3.go x4, rfl, fun e he => by cases he⟩, fun j σ' H' hj ⟨y6, y7, es, e, k5, A5, l5, h5⟩ => ?_, fun σ' H' ⟨y6, y7, es, e, k5, A5, l5, h5⟩ => ?_⟩
      · subst e
        have hs5 := hs2.mono A5.xt
        have hc : kk + 7711 + (i.toNat - j) * 128 = (kk + 7711 + (i.toNat - (j + 1)) * 128) + 128 := by omega
        rw [hc] at k5
        refine q_asg (P := lP K (RP T p) fun es => (es.length : Int) = b ∧ ∀ e ∈ es, nonBelow a e = true) k5 ((ev_lcRL (k := 64) (c := 2) (pi := (· = b)) (pe := fun e => nonBelow a e = true) (ev_asI (ev_at rfl hs5 1 rfl rfl) fun d e => ⟨b, e, rfl⟩) (fun i e => by subst e; omega) (fun _ => rfl) (fun e he => imm_nonBelow he) (fun i H2 x q => ev_if (k := q + 1) (evt_test (ev_I0 (P := bP _ fun _ => True) (ev_draw rfl ev_int fun i e => by subst e; omega) ev_int fun i j H _ _ => ⟨_, rfl, trivial⟩)) (fun _ => Ev.cost (ev_dn.imp fun v H' _ ⟨d, hd, e⟩ => ⟨d, hd, by rw [e] <;> rfl⟩) (by omega)) fun _ => ?_)).imp fun v H' _ ⟨aa, xs, es, e, hn, hp, hd, i, e2, e3, e4⟩ => ⟨aa, xs, es, e, hn, hp, hd, by subst e2; exact e3, e4⟩) fun v7 H6 x6 k6 hl7 => ?_
        · exact (ev_draw rfl (ev_asI (pi := (· = a)) (ev_at rfl (hs5.mono ‹_›) 0 rfl rfl) fun d e => ⟨a, e, rfl⟩) fun i e => by subst e; omega).imp fun v H' _ ⟨d, e, z, e2, d0, d1⟩ => by
            subst e e2
            exact ⟨.int d, .int d, below_non (below_int d0 d1)⟩
        · have A6 := A5.go x6
          refine s_app k6 A6 rfl (p := fun d => isGifts b a d = true) ((ev_tupleOf (ev_ofL (ev_lvar rfl hl7)) fun d ⟨ds, e, _⟩ => ⟨ds, .inr e⟩).imp fun v H' _ ⟨d, hd, ds, e, e2⟩ => ⟨d, hd, ?_⟩) (fun d => imm_gifts) (by omega) fun d H7 hd k7 A7 _ => ⟨_, _, _, rfl, k7, A7, by rw [List.length_append, l5]; rfl, fun e he => ?_⟩
          · rcases e with ⟨_, e, _⟩ | ⟨ds', e, e3⟩
            · cases e
            · cases e
              rw [e2]
              exact isGifts_of e3.1 e3.2
          · rcases List.mem_append.mp he with z | z
            · exact h5 e z
            · rw [List.mem_singleton.mp z]
              exact gift_slim hd hb.2
      · subst e
        have hs5 := hs2.mono A5.xt
        have hd45 := hd4.mono A5.xt
        refine q_asg (m := kk + 7646) (k5.mono (by omega)) (ev_steps rfl rfl hm) fun v6 H5 x5 k5 ⟨d6, hd6, h6⟩ => ?_
        obtain ⟨t, rfl, tl, ht⟩ := states_inv h6
        have A6 := A5.go x5
        refine s_ret k5 (ev_dtup (ps := [fun d => isGifts i c d = true, (· = .tuple t), (· = .tuple h), (· = .tuple es), fun d => isStates i i d = true])
          (eva_d (ev_letters rfl (ev_dvar rfl (.int i)) (ev_at rfl (hs5.mono x5) 2 rfl rfl) hm hc) (eva_d (ev_dvar rfl hd6) (eva_d (ev_dvar rfl (hd45.mono x5)) (eva_d ((ev_tupleOf (ev_dvar rfl A6.dq) fun d e => ⟨es, .inr e⟩).imp fun v H' _ ⟨d, hd, ds, e, e2⟩ => ⟨d, hd, ?_⟩) (eva_d (ev_falls rfl (ev_dvar rfl (.int i)) hm) eva_nil))))) (by show 5 ≤ 1000; decide)) fun v H6 x6 k6 ⟨d, hd, ds, e, hall⟩ => ?_
        · rcases e with e | e
          · cases e
          · cases e
            exact e2
        · obtain ⟨_, _, rfl, g1, _, _, rfl, rfl, _, _, rfl, rfl, _, _, rfl, rfl, _, _, rfl, g5, rfl⟩ := hall
          obtain ⟨s', rfl, sl, s_⟩ := gifts_inv g1
          obtain ⟨r', rfl, rl, r_⟩ := states_inv g5
          subst e
          refine q v H6 _ (((x1.trans x2).trans A5.xt).trans (x5.trans x6)) (k6.mono (by omega)) hd ⟨a, b, c, top, rfl, s', t, h, es, r', rfl, ?_, by omega⟩
          subst sl
          exact ⟨ha.1, hb.1, hc.1, fun z => by
            rw [z] at hm
            exact absurd hm.1 (by decide), by omega, by omega, by omega, by omega, s_, ht, fun it hi => ⟨hhi it hi, (take_of (hhi it hi) hb.2).2⟩, h5, r_⟩
end
end LW

set_option Elab.async false
set_option linter.all false
set_option maxRecDepth 100000
set_option maxHeartbeats 4000000
namespace LW
open PySem PySem.Spec PyProof.Rows L2 LamX NdefX WE WLam
section
variable {K : PySem.W.Frag} {R : Rs} {σ : L2.St} {H : Hp} {n m k : Nat} {te ta tb : TE} {tl : TA} {p q : PyData → Prop}
theorem allD_eq : ∀ {ds es : List PyData}, AllD (ds.map fun d e => e = d) es → es = ds
  | [], _, h => h
  | d :: ds, _, ⟨e, r, h1, h2, h3⟩ => by rw [h1, h2, allD_eq h3]
theorem ev_tupK (ds : List PyData) (h : EvA R n m tl σ H ((ds.map fun d e => e = d).map (dP K R))) (hl : ds.length ≤ 1000) : Ev R n m (tTup tl) σ H (dP K R (· = .tuple ds)) :=
  (ev_dtup h (by rw [List.length_map]; exact hl)).imp fun v H' _ ⟨d, hd, es, e, ha⟩ => ⟨d, hd, by rw [e, allD_eq ha]⟩
theorem ev_lstK (ds : List PyData) (h : EvA R n m tl σ H ((ds.map fun d e => e = d).map (dP K R))) (hl : ds.length ≤ 1000) : Ev R n m (tLst tl) σ H (dP K R (· = .list ds)) :=
  (ev_dlst h (by rw [List.length_map]; exact hl)).imp fun v H' _ ⟨d, hd, es, e, ha⟩ => ⟨d, hd, by rw [e, allD_eq ha]⟩
theorem ev_repK {ds es : List PyData} {z : Int} (ha : Ev R n k ta σ H (dP K R (· = .tuple ds))) (hb : Ev R k m tb σ H (iP R (· = z))) (h1 : ds ≠ []) (h2 : ds.length ≤ 1000) (h3 : 1 ≤ z ∧ z ≤ 1000) (he : (List.replicate z.toNat ds).flatten = es) : Ev R n m (tOp (rRepA K) ta tb) σ H (dP K R (· = .tuple es)) :=
  (ev_repA ha hb (fun d e => ⟨ds, e, h1, h2⟩) (fun i e => by rw [e]; exact h3)).imp fun v H' _ ⟨d, hd, ds', i, e1, e2, e3⟩ => ⟨d, hd, by
    cases e1
    rw [e3, e2, he]⟩
theorem ev_catT (ha : Ev R n k ta σ H (dP K R p)) (hb : Ev R k m tb σ H (dP K R q)) (hp : ∀ d, p d → ∃ ds, d = .tuple ds ∧ ds ≠ [] ∧ ds.length ≤ 100000) (hq : ∀ d, q d → ∃ ds, d = .tuple ds ∧ ds ≠ [] ∧ ds.length ≤ 100000) : Ev R n m (tOp (rCatT K) ta tb) σ H (dP K R fun d => ∃ ds es, p (.tuple ds) ∧ q (.tuple es) ∧ d = .tuple (ds ++ es)) :=
  ev_op ha hb fun x y H1 _ k ⟨d, hd, pd⟩ ⟨e, he, qe⟩ Q z => by
    obtain ⟨ds, rfl, n1, l1⟩ := hp d pd
    obtain ⟨es, rfl, n2, l2⟩ := hq e qe
    obtain ⟨a, xs, rfl, h1, h2⟩ := dq_tup hd
    obtain ⟨b, ys, rfl, h3, h4⟩ := dq_tup he
    have e1 := h2.length
    have e2 := h4.length
    refine ⟨a, b, xs, ys, rfl, rfl, h1, h3, fun z => ?_, Nat.le_trans (by omega) (show 200000 ≤ sizeLine by decide), fun z => ?_, fun _ p hp2 => ?_⟩
    · rw [z] at e1
      exact n1 (List.eq_nil_of_length_eq_zero e1.symm)
    · rw [z] at e2
      exact absurd (List.eq_nil_of_length_eq_zero e2.symm) n2
    · have xn : Xt R H1 (upd H1 p (.tup (xs ++ ys))) := .new hp2
      exact z _ _ xn (k.new hp2) ⟨_, .tup (.inl (.inl upd_same)) ((h2.append h4).mono xn), ds, es, pd, qe, rfl⟩
theorem ev_catK {ds es : List PyData} (ha : Ev R n k ta σ H (dP K R (· = .tuple ds))) (hb : Ev R k m tb σ H (dP K R (· = .tuple es))) (n1 : ds ≠ []) (n2 : es ≠ []) (l1 : ds.length ≤ 100000) (l2 : es.length ≤ 100000) : Ev R n m (tOp (rCatT K) ta tb) σ H (dP K R (· = .tuple (ds ++ es))) :=
  (ev_catT ha hb (fun d e => ⟨ds, e, n1, l1⟩) (fun d e => ⟨es, e, n2, l2⟩)).imp fun v H' _ ⟨d, hd, ds', es', e1, e2, e3⟩ => ⟨d, hd, by
    cases e1
    cases e2
    exact e3⟩
theorem ev_ixK {ds : List PyData} {d : PyData} {z : Int} (ha : Ev R n k ta σ H (dP K R (· = .list ds))) (hb : Ev R k m tb σ H (iP R (· = z))) (j : Nat) (hz : z = (j : Int)) (hj : ds[j]? = some d) : Ev R n m (tOp (rIx K) ta tb) σ H (dP K R (· = d)) := by
  subst hz
  refine (ev_ix ha hb fun d' i' e1 e2 => ⟨ds, j, d, .inr e1, e2, hj⟩).imp fun v H' _ ⟨e, he, d', ds', j', e1, e2, e3, e4⟩ => ⟨e, he, ?_⟩
  subst e1
  have e2 : (j' : Int) = (j : Int) := e2
  have e2 : j' = j := by omega
  subst e2
  rcases e3 with e3 | e3
  · cases e3
  · cases e3
    rw [hj] at e4
    exact (Option.some.inj e4).symm
theorem ev_trgK {es : List PyData} {z : Int} (h : Ev R n m te σ H (iP R (· = z))) (hz : 0 ≤ z ∧ z ≤ 1000) (he : (List.range z.toNat).map (fun j : Nat => PyData.int (j : Int)) = es) : Ev R n m (tTupRg (tRg1 te)) σ H (dP K R (· = .tuple es)) :=
  (ev_trg1 h fun i e => by rw [e]; exact hz).imp fun v H' _ ⟨d, hd, i, e, e2⟩ => ⟨d, hd, by rw [e2, e, he]⟩
theorem ev_trgK2 {es : List PyData} {y z : Int} (h : Ev R n k ta σ H (iP R (· = y))) (h' : Ev R k m tb σ H (iP R (· = z))) (hy : 0 ≤ y ∧ y ≤ 1000) (hz : 0 ≤ z ∧ z ≤ 1000) (he : (List.range (z - y).toNat).map (fun j : Nat => PyData.int (y + (j : Int))) = es) : Ev R n m (tTupRg (tRg2 ta tb)) σ H (dP K R (· = .tuple es)) :=
  (ev_trg2 h h' fun i j e e2 => by rw [e, e2]; exact ⟨hy.1, hy.2, hz⟩).imp fun v H' _ ⟨d, hd, i, j, e, e1, e2⟩ => ⟨d, hd, by rw [e2, e, e1, he]⟩
theorem ev_addK {x y : Int} (ha : Ev R n k ta σ H (iP R (· = x))) (hb : Ev R k m tb σ H (iP R (· = y))) : Ev R n m (tOp (rI0 fun i j => .int (i + j)) ta tb) σ H (iP R (· = x + y)) := ev_I0 ha hb fun i j _ e1 e2 => ⟨_, rfl, by rw [e1, e2]⟩
end
/-! ### what the makers of well known pairs give -/
def fallsD (b : Bool) : List PyData := if b then [.tuple [.int 0, .int 0, .int 2, .int 2], .tuple [.int 0, .int 1]] else [.tuple [.int 0, .int 0, .int 0, .int 0], .tuple [.int 0, .int 0]]
def fall0 (b : Bool) : PyData := if b then .tuple [.int 0, .int 0, .int 2, .int 2] else .tuple [.int 0, .int 0, .int 0, .int 0]
def fall1 (b : Bool) : PyData := if b then .tuple [.int 0, .int 1] else .tuple [.int 0, .int 0]
def turnsD (b : Bool) : PyData := .tuple [szs 1 2 2, .tuple ([.tuple [.none, .int 0, .none, .int 1], .tuple [.int 0, .int 1, .int 2, .int 3], .tuple [.tuple [.int 0, .int 0], .tuple [.int 2, .int 1], .tuple [.int 2, .int 2], .tuple [.int 3, .int 0]], .tuple [.tuple [.int 1], .none, .tuple [.int 3], .none]] ++ [fall0 b]), .tuple ([.tuple [.int 1, .int 0], .tuple [.int 0, .int 1], .tuple [.tuple [.int 1, .int 0], .tuple [.int 1, .int 0]], .tuple [.tuple [.int 0, .none], .tuple [.none, .int 0]]] ++ [fall1 b])]
section
variable {P : Program} {w : World} {K : PySem.W.Frag} {mg : Str → Option Value} {base : Heap} {T : List (Addr × Str)}
theorem sc_law_turns : FnScope ["is_kept", "sender", "receiver", "falls"] ["is_kept"] (defScope s_law_turns) := ⟨rfl, rfl, rfl, by decide +kernel, rfl, by decide +kernel, by decide +kernel⟩
abbrev SpLT (T : List (Addr × Str)) (K : PySem.W.Frag) : Sp := SpD T K 1 (fun ds => ∃ b : Bool, ds = [.bool b]) (fun ds d => ∃ b : Bool, ds = [.bool b] ∧ d = turnsD b)
theorem ok_law_turns (D : Def1 K mg "_law_turns" s_law_turns) (B : Bl mg) : Cal P w K mg base CX0 1 "_law_turns" ["is_kept"] (SpLT T K) := by
  refine cal_of D sc_law_turns (fun _ _ _ _ _ _ us hl => match us, hl with | [_], _ => rfl) (fun vs H Q E h => h.1) (fun f cdv A outer s H vs Q E hr h => ?_)
  obtain ⟨_, R, m, ds, rfl, ok, hd, ⟨b, rfl⟩, q⟩ := h
  obtain ⟨v1, rfl, h1⟩ := dqa1 hd
  cases h1
  refine ⟨_, pss_cons (ps_set (i := 1) sc_law_turns.nd rfl (.inl rfl) (pe_tup (pa_cons (pe_tup (pa_cons pe_non (pa_cons pe_int (pa_cons pe_non (pa_cons pe_int pa_nil))))) (pa_cons (pe_tup (pa_cons pe_int (pa_cons pe_int (pa_cons pe_int (pa_cons pe_int pa_nil))))) (pa_cons (pe_tup (pa_cons (pe_tup (pa_cons pe_int (pa_cons pe_int pa_nil))) (pa_cons (pe_tup (pa_cons pe_int (pa_cons pe_int pa_nil))) (pa_cons (pe_tup (pa_cons pe_int (pa_cons pe_int pa_nil))) (pa_cons (pe_tup (pa_cons pe_int (pa_cons pe_int pa_nil))) pa_nil))))) (pa_cons (pe_tup (pa_cons (pe_tup (pa_cons pe_int pa_nil)) (pa_cons pe_non (pa_cons (pe_tup (pa_cons pe_int pa_nil)) (pa_cons pe_non pa_nil))))) pa_nil))))))
    (pss_cons (ps_set (i := 2) sc_law_turns.nd rfl (.inl rfl) (pe_tup (pa_cons (pe_tup (pa_cons pe_int (pa_cons pe_int pa_nil))) (pa_cons (pe_tup (pa_cons pe_int (pa_cons pe_int pa_nil))) (pa_cons (pe_tup (pa_cons (pe_tup (pa_cons pe_int (pa_cons pe_int pa_nil))) (pa_cons (pe_tup (pa_cons pe_int (pa_cons pe_int pa_nil))) pa_nil))) (pa_cons (pe_tup (pa_cons (pe_tup (pa_cons pe_int (pa_cons pe_non pa_nil))) (pa_cons (pe_tup (pa_cons pe_non (pa_cons pe_int pa_nil))) pa_nil))) pa_nil))))))
    (pss_cons (ps_set (i := 3) sc_law_turns.nd rfl (.inl rfl) (pe_ix (r := rIx K) ix_seq (pe_lst (pa_cons (pe_tup (pa_cons (pe_op op_repA (pe_tup (pa_cons pe_int pa_nil)) pe_int) (pa_cons (pe_op op_repA (pe_tup (pa_cons pe_int pa_nil)) pe_int) pa_nil))) (pa_cons (pe_tup (pa_cons (pe_tup (pa_cons pe_int (pa_cons pe_int (pa_cons pe_int (pa_cons pe_int pa_nil))))) (pa_cons (pe_tup (pa_cons pe_int (pa_cons pe_int pa_nil))) pa_nil))) pa_nil))) (pe_callTy call_int1 (by rfl) B.int (by decide +kernel) (pa_cons (pv 0) pa_nil)) (fun _ _ => rfl)))
    (pss_one (ps_ret (pe_tup (pa_cons (pe_tup (pa_cons pe_int (pa_cons pe_int (pa_cons pe_int pa_nil)))) (pa_cons (pe_op op_catT (pv 1) (pe_tup (pa_cons (pe_ix (r := rIx K) ix_seq (pv 3) pe_int (fun _ _ => rfl)) pa_nil))) (pa_cons (pe_op op_catT (pv 2) (pe_tup (pa_cons (pe_ix (r := rIx K) ix_seq (pv 3) pe_int (fun _ _ => rfl)) pa_nil))) pa_nil)))))))), ?_⟩
  refine q_asg (P := dP K R _) ok (ev_tupK [.tuple [.none, .int 0, .none, .int 1], .tuple [.int 0, .int 1, .int 2, .int 3], .tuple [.tuple [.int 0, .int 0], .tuple [.int 2, .int 1], .tuple [.int 2, .int 2], .tuple [.int 3, .int 0]], .tuple [.tuple [.int 1], .none, .tuple [.int 3], .none]] (eva_d (ev_tupK [.none, .int 0, .none, .int 1] (eva_d ev_dn (eva_d ev_di (eva_d ev_dn (eva_d ev_di eva_nil)))) (by decide)) (eva_d (ev_tupK [.int 0, .int 1, .int 2, .int 3] (eva_d ev_di (eva_d ev_di (eva_d ev_di (eva_d ev_di eva_nil)))) (by decide)) (eva_d (ev_tupK [.tuple [.int 0, .int 0], .tuple [.int 2, .int 1], .tuple [.int 2, .int 2], .tuple [.int 3, .int 0]] (eva_d (ev_tupK [.int 0, .int 0] (eva_d ev_di (eva_d ev_di eva_nil)) (by decide)) (eva_d (ev_tupK [.int 2, .int 1] (eva_d ev_di (eva_d ev_di eva_nil)) (by decide)) (eva_d (ev_tupK [.int 2, .int 2] (eva_d ev_di (eva_d ev_di eva_nil)) (by decide)) (eva_d (ev_tupK [.int 3, .int 0] (eva_d ev_di (eva_d ev_di eva_nil)) (by decide)) eva_nil)))) (by decide)) (eva_d (ev_tupK [.tuple [.int 1], .none, .tuple [.int 3], .none] (eva_d (ev_tupK [.int 1] (eva_d ev_di eva_nil) (by decide)) (eva_d ev_dn (eva_d (ev_tupK [.int 3] (eva_d ev_di eva_nil) (by decide)) (eva_d ev_dn eva_nil)))) (by decide)) eva_nil)))) (by decide)) fun v1 H1 x1 k1 ⟨d1, hd1, e1⟩ => ?_
  refine q_asg (P := dP K R _) k1 (ev_tupK [.tuple [.int 1, .int 0], .tuple [.int 0, .int 1], .tuple [.tuple [.int 1, .int 0], .tuple [.int 1, .int 0]], .tuple [.tuple [.int 0, .none], .tuple [.none, .int 0]]] (eva_d (ev_tupK [.int 1, .int 0] (eva_d ev_di (eva_d ev_di eva_nil)) (by decide)) (eva_d (ev_tupK [.int 0, .int 1] (eva_d ev_di (eva_d ev_di eva_nil)) (by decide)) (eva_d (ev_tupK [.tuple [.int 1, .int 0], .tuple [.int 1, .int 0]] (eva_d (ev_tupK [.int 1, .int 0] (eva_d ev_di (eva_d ev_di eva_nil)) (by decide)) (eva_d (ev_tupK [.int 1, .int 0] (eva_d ev_di (eva_d ev_di eva_nil)) (by decide)) eva_nil)) (by decide)) (eva_d (ev_tupK [.tuple [.int 0, .none], .tuple [.none, .int 0]] (eva_d (ev_tupK [.int 0, .none] (eva_d ev_di (eva_d ev_dn eva_nil)) (by decide)) (eva_d (ev_tupK [.none, .int 0] (eva_d ev_dn (eva_d ev_di eva_nil)) (by decide)) eva_nil)) (by decide)) eva_nil)))) (by decide)) fun v2 H2 x2 k2 ⟨d2, hd2, e2⟩ => ?_
  subst e1 e2
  refine q_asg k2 (ev_ixK (d := .tuple (fallsD b)) (ev_lstK [.tuple [.tuple [.int 0, .int 0, .int 0, .int 0], .tuple [.int 0, .int 0]], .tuple [.tuple [.int 0, .int 0, .int 2, .int 2], .tuple [.int 0, .int 1]]] (eva_d (ev_tupK [.tuple [.int 0, .int 0, .int 0, .int 0], .tuple [.int 0, .int 0]] (eva_d (ev_repK (ev_tupK [.int 0] (eva_d ev_di eva_nil) (by decide)) ev_int (by simp) (by decide) (by decide) rfl) (eva_d (ev_repK (ev_tupK [.int 0] (eva_d ev_di eva_nil) (by decide)) ev_int (by simp) (by decide) (by decide) rfl) eva_nil)) (by decide)) (eva_d (ev_tupK [.tuple [.int 0, .int 0, .int 2, .int 2], .tuple [.int 0, .int 1]] (eva_d (ev_tupK [.int 0, .int 0, .int 2, .int 2] (eva_d ev_di (eva_d ev_di (eva_d ev_di (eva_d ev_di eva_nil)))) (by decide)) (eva_d (ev_tupK [.int 0, .int 1] (eva_d ev_di (eva_d ev_di eva_nil)) (by decide)) eva_nil)) (by decide)) eva_nil)) (by decide)) ((ev_intB (pb := (· = b)) (ev_var rfl ⟨b, rfl, rfl⟩)).imp fun v H' _ ⟨i, e, b', e1, e2⟩ => ⟨i, e, by rw [e2, e1]⟩) b.toNat (by cases b <;> rfl) (by cases b <;> rfl)) fun v3 H3 x3 k3 ⟨d3, hd3, e3⟩ => ?_
  subst e3
  refine s_ret k3 (ev_tupK [szs 1 2 2, _, _] (eva_d (ev_tupK [.int 1, .int 2, .int 2] (eva_d ev_di (eva_d ev_di (eva_d ev_di eva_nil))) (by decide)) (eva_d (ev_catK (ev_dvar rfl ((hd1.mono x2).mono x3)) (ev_tupK [fall0 b] (eva_d (ev_at rfl hd3 0 rfl (by cases b <;> rfl)) eva_nil) (by show 1 ≤ 1000; decide)) (by simp) (by simp) (by show 4 ≤ 100000; decide) (by show 1 ≤ 100000; decide)) (eva_d (ev_catK (ev_dvar rfl (hd2.mono x3)) (ev_tupK [fall1 b] (eva_d (ev_at rfl hd3 1 rfl (by cases b <;> rfl)) eva_nil) (by show 1 ≤ 1000; decide)) (by simp) (by simp) (by show 4 ≤ 100000; decide) (by show 1 ≤ 100000; decide)) eva_nil))) (by show 3 ≤ 1000; decide)) fun v H4 x4 k4 ⟨d, hd, e⟩ => ?_
  subst e
  exact q v H4 _ (((x1.trans x2).trans x3).trans x4) k4 hd ⟨b, rfl, rfl⟩
end
end LW

set_option Elab.async false
set_option linter.all false
set_option maxRecDepth 100000
set_option maxHeartbeats 4000000
namespace LW
open PySem PySem.Spec PyProof.Rows L2 LamX NdefX WE WLam
section
variable {K : PySem.W.Frag} {R : Rs} {σ : L2.St} {H : Hp} {n m k : Nat} {te ta tb : TE} {tl : TA} {p q : PyData → Prop}
theorem cut_whole {ds : List PyData} {lo hi : Option Int} (h1 : HT.sIx ds.length 0 lo = 0) (h2 : HT.sIx ds.length ds.length hi = ds.length) : WE.cutD ds lo hi = ds := by
  unfold WE.cutD
  rw [h1, h2, List.drop_zero, Nat.sub_zero, List.take_length]
theorem ev_sltTo {ds es : List PyData} {z : Int} (h : Ev R n m te σ H (dP K R (· = .tuple ds))) (he : WE.cutD ds none (some z) = es) : Ev R n m (tSl (rSlA K) te tNoPart (tPart (tC (.int z)))) σ H (dP K R (· = .tuple es)) := fun H1 x1 k1 Q q =>
  h H1 x1 k1 _ fun v H2 x2 k2 ⟨d, hd, e⟩ => by
    subst e
    obtain ⟨a, xs, rfl, h1, h2⟩ := dq_tup hd
    refine ⟨z, rfl, a, xs, rfl, h1, fun w => ?_, fun _ p hp => ?_⟩
    · rw [h2.length] at w
      rw [cut_whole w.1 w.2] at he
      subst he
      exact q _ H2 x2 k2 ⟨_, hd, rfl⟩
    · have xn : Xt R H2 (upd H2 p (.tup (cutV xs none (some z)))) := .new hp
      refine q _ _ (x2.trans xn) (k2.new hp) ⟨_, .tup (.inl (.inl upd_same)) ((cut_data h2).mono xn), ?_⟩
      rw [he]
end
section
variable {P : Program} {w : World} {K : PySem.W.Frag} {mg : Str → Option Value} {base : Heap} {T : List (Addr × Str)}
/-! ### _law_greets -/
def greetR (b : Bool) : List PyData := if b then [.tuple [.none, .int 1, .int 0], .tuple [.int 0, .int 1, .int 2], .tuple [.tuple [.int 1, .int 0], .tuple [.int 1, .int 2], .tuple [.int 2, .int 2]], .tuple [.tuple [.none, .none], .tuple [.none, .int 0], .tuple [.none, .none]], .tuple [.int 0, .int 1, .int 2]] else [.tuple [.none, .int 1, .int 0], .tuple [.int 0, .int 1, .int 2], .tuple [.tuple [.int 1, .int 0], .tuple [.int 1, .int 2], .tuple [.int 2, .int 2]], .tuple [.tuple [.none, .none], .tuple [.none, .int 0], .tuple [.none, .none]], .tuple [.int 0, .int 0, .int 0]]
def greetsD (b : Bool) : PyData := .tuple [szs 1 2 2, .tuple [.tuple [.none, .int 0, .int 1], .tuple [.int 0, .int 1, .int 2], .tuple [.tuple [.int 0, .int 0], .tuple [.int 1, .int 2], .tuple [.int 0, .int 2]], .tuple [.tuple [.int 1], .none, .none], .tuple [.int 0, .int 0, .int 0]], .tuple (greetR b)]
theorem sc_law_greets : FnScope ["is_mute", "sender", "receiver"] ["is_mute"] (defScope s_law_greets) := ⟨rfl, rfl, rfl, by decide +kernel, rfl, by decide +kernel, by decide +kernel⟩
abbrev SpLG (T : List (Addr × Str)) (K : PySem.W.Frag) : Sp := SpD T K 1 (fun ds => ∃ b : Bool, ds = [.bool b]) (fun ds d => ∃ b : Bool, ds = [.bool b] ∧ d = greetsD b)
theorem ok_law_greets (D : Def1 K mg "_law_greets" s_law_greets) (B : Bl mg) : Cal P w K mg base CX0 1 "_law_greets" ["is_mute"] (SpLG T K) := by
  refine cal_of D sc_law_greets (fun _ _ _ _ _ _ us hl => match us, hl with | [_], _ => rfl) (fun vs H Q E h => h.1) (fun f cdv A outer s H vs Q E hr h => ?_)
  obtain ⟨_, R, m, ds, rfl, ok, hd, ⟨b, rfl⟩, q⟩ := h
  obtain ⟨v0, rfl, h1⟩ := dqa1 hd
  cases h1
  refine ⟨_, pss_cons (ps_set (i := 1) sc_law_greets.nd rfl (.inl rfl) (pe_tup (pa_cons (pe_tup (pa_cons pe_non (pa_cons pe_int (pa_cons pe_int pa_nil)))) (pa_cons (pe_tup (pa_cons pe_int (pa_cons pe_int (pa_cons pe_int pa_nil)))) (pa_cons (pe_tup (pa_cons (pe_tup (pa_cons pe_int (pa_cons pe_int pa_nil))) (pa_cons (pe_tup (pa_cons pe_int (pa_cons pe_int pa_nil))) (pa_cons (pe_tup (pa_cons pe_int (pa_cons pe_int pa_nil))) pa_nil)))) (pa_cons (pe_tup (pa_cons (pe_tup (pa_cons pe_int pa_nil)) (pa_cons pe_non (pa_cons pe_non pa_nil)))) (pa_cons (pe_tup (pa_cons pe_int (pa_cons pe_int (pa_cons pe_int pa_nil)))) pa_nil)))))))
    (pss_cons (ps_set (i := 2) sc_law_greets.nd rfl (.inl rfl) (pe_tup (pa_cons (pe_tup (pa_cons pe_non (pa_cons pe_int (pa_cons pe_int pa_nil)))) (pa_cons (pe_tup (pa_cons pe_int (pa_cons pe_int (pa_cons pe_int pa_nil)))) (pa_cons (pe_tup (pa_cons (pe_tup (pa_cons pe_int (pa_cons pe_int pa_nil))) (pa_cons (pe_tup (pa_cons pe_int (pa_cons pe_int pa_nil))) (pa_cons (pe_tup (pa_cons pe_int (pa_cons pe_int pa_nil))) pa_nil)))) (pa_cons (pe_tup (pa_cons (pe_tup (pa_cons pe_non (pa_cons pe_non pa_nil))) (pa_cons (pe_tup (pa_cons pe_non (pa_cons pe_int pa_nil))) (pa_cons (pe_tup (pa_cons pe_non (pa_cons pe_non pa_nil))) pa_nil)))) (pa_cons (pe_tup (pa_cons pe_int (pa_cons pe_int (pa_cons pe_int pa_nil)))) pa_nil)))))))
    (pss_cons (ps_if (pt_val (pv 0)) (pss_one (ps_set (i := 2) sc_law_greets.nd rfl (.inl rfl) (pe_op op_catT (pe_slice sl_tupA (pv 2) po_none (po_some pe_int)) (pe_tup (pa_cons (pe_tup (pa_cons pe_int (pa_cons pe_int (pa_cons pe_int pa_nil)))) pa_nil))))) pss_nil)
    (pss_one (ps_ret (pe_tup (pa_cons (pe_tup (pa_cons pe_int (pa_cons pe_int (pa_cons pe_int pa_nil)))) (pa_cons (pv 1) (pa_cons (pv 2) pa_nil)))))))), ?_⟩
  refine q_asg (P := dP K R _) ok (ev_tupK [.tuple [.none, .int 0, .int 1], .tuple [.int 0, .int 1, .int 2], .tuple [.tuple [.int 0, .int 0], .tuple [.int 1, .int 2], .tuple [.int 0, .int 2]], .tuple [.tuple [.int 1], .none, .none], .tuple [.int 0, .int 0, .int 0]] (eva_d (ev_tupK [.none, .int 0, .int 1] (eva_d ev_dn (eva_d ev_di (eva_d ev_di eva_nil))) (by decide)) (eva_d (ev_tupK [.int 0, .int 1, .int 2] (eva_d ev_di (eva_d ev_di (eva_d ev_di eva_nil))) (by decide)) (eva_d (ev_tupK [.tuple [.int 0, .int 0], .tuple [.int 1, .int 2], .tuple [.int 0, .int 2]] (eva_d (ev_tupK [.int 0, .int 0] (eva_d ev_di (eva_d ev_di eva_nil)) (by decide)) (eva_d (ev_tupK [.int 1, .int 2] (eva_d ev_di (eva_d ev_di eva_nil)) (by decide)) (eva_d (ev_tupK [.int 0, .int 2] (eva_d ev_di (eva_d ev_di eva_nil)) (by decide)) eva_nil))) (by decide)) (eva_d (ev_tupK [.tuple [.int 1], .none, .none] (eva_d (ev_tupK [.int 1] (eva_d ev_di eva_nil) (by decide)) (eva_d ev_dn (eva_d ev_dn eva_nil))) (by decide)) (eva_d (ev_tupK [.int 0, .int 0, .int 0] (eva_d ev_di (eva_d ev_di (eva_d ev_di eva_nil))) (by decide)) eva_nil))))) (by decide)) fun v1 H1 x1 k1 ⟨d1, hd1, e1⟩ => ?_
  refine q_asg (P := dP K R _) k1 (ev_tupK [.tuple [.none, .int 1, .int 0], .tuple [.int 0, .int 1, .int 2], .tuple [.tuple [.int 1, .int 0], .tuple [.int 1, .int 2], .tuple [.int 2, .int 2]], .tuple [.tuple [.none, .none], .tuple [.none, .int 0], .tuple [.none, .none]], .tuple [.int 0, .int 0, .int 0]] (eva_d (ev_tupK [.none, .int 1, .int 0] (eva_d ev_dn (eva_d ev_di (eva_d ev_di eva_nil))) (by decide)) (eva_d (ev_tupK [.int 0, .int 1, .int 2] (eva_d ev_di (eva_d ev_di (eva_d ev_di eva_nil))) (by decide)) (eva_d (ev_tupK [.tuple [.int 1, .int 0], .tuple [.int 1, .int 2], .tuple [.int 2, .int 2]] (eva_d (ev_tupK [.int 1, .int 0] (eva_d ev_di (eva_d ev_di eva_nil)) (by decide)) (eva_d (ev_tupK [.int 1, .int 2] (eva_d ev_di (eva_d ev_di eva_nil)) (by decide)) (eva_d (ev_tupK [.int 2, .int 2] (eva_d ev_di (eva_d ev_di eva_nil)) (by decide)) eva_nil))) (by decide)) (eva_d (ev_tupK [.tuple [.none, .none], .tuple [.none, .int 0], .tuple [.none, .none]] (eva_d (ev_tupK [.none, .none] (eva_d ev_dn (eva_d ev_dn eva_nil)) (by decide)) (eva_d (ev_tupK [.none, .int 0] (eva_d ev_dn (eva_d ev_di eva_nil)) (by decide)) (eva_d (ev_tupK [.none, .none] (eva_d ev_dn (eva_d ev_dn eva_nil)) (by decide)) eva_nil))) (by decide)) (eva_d (ev_tupK [.int 0, .int 0, .int 0] (eva_d ev_di (eva_d ev_di (eva_d ev_di eva_nil))) (by decide)) eva_nil))))) (by decide)) fun v2 H2 x2 k2 ⟨d2, hd2, e2⟩ => ?_
  subst e1 e2
  have fin : ∀ {v3 : V} {H3 : Hp}, Xt R H2 H3 → Ok R m H3 → Dq K R.M H3 v3 (.tuple (greetR b)) → tRet (tTup (tCons (tTup (tCons (tC (.int 1)) (tCons (tC (.int 2)) (tCons (tC (.int 2)) tNil)))) (tCons (tVar 1) (tCons (tVar 2) tNil)))) { nx := fun _ H' => Q .non H', rt := Q } [some (.bl b), some v1, some v3] H3 := fun {v3 H3} x3 k3 h3 =>
    s_ret k3 (ev_tupK (K := K) [szs 1 2 2, .tuple [.tuple [.none, .int 0, .int 1], .tuple [.int 0, .int 1, .int 2], .tuple [.tuple [.int 0, .int 0], .tuple [.int 1, .int 2], .tuple [.int 0, .int 2]], .tuple [.tuple [.int 1], .none, .none], .tuple [.int 0, .int 0, .int 0]], .tuple (greetR b)] (eva_d (ev_tupK [.int 1, .int 2, .int 2] (eva_d ev_di (eva_d ev_di (eva_d ev_di eva_nil))) (by decide)) (eva_d (ev_dvar rfl ((hd1.mono x2).mono x3)) (eva_d (ev_dvar rfl h3) eva_nil))) (by show 3 ≤ 1000; decide)) fun v H4 x4 k4 ⟨d, hd, e⟩ => by
      subst e
      exact q v H4 _ (((x1.trans x2).trans x3).trans x4) k4 hd ⟨b, rfl, rfl⟩
  refine q_if k2 (evt_B (p := (· = b)) (ev_var rfl ⟨b, rfl, rfl⟩)) (fun hb H3 x3 k3 => ?_) (fun hb H3 x3 k3 => ?_)
  · cases hb
    exact s_asg k3 (ev_catK (K := K) (ds := [.tuple [.none, .int 1, .int 0], .tuple [.int 0, .int 1, .int 2], .tuple [.tuple [.int 1, .int 0], .tuple [.int 1, .int 2], .tuple [.int 2, .int 2]], .tuple [.tuple [.none, .none], .tuple [.none, .int 0], .tuple [.none, .none]]]) (ev_sltTo (ev_dvar rfl (hd2.mono x3)) rfl) (ev_tupK [.tuple [.int 0, .int 1, .int 2]] (eva_d (ev_tupK [.int 0, .int 1, .int 2] (eva_d ev_di (eva_d ev_di (eva_d ev_di eva_nil))) (by decide)) eva_nil) (by decide)) (by simp) (by simp) (by decide) (by decide)) fun v3 H4 x4 k4 ⟨d, hd, e⟩ => by
      subst e
      exact fin (x3.trans x4) k4 hd
  · cases hb
    exact fin x3 k3 (hd2.mono x3)
/-! ### _law_repeats -/
def rg0 (n : Int) : List PyData := (List.range n.toNat).map fun j : Nat => PyData.int (j : Int)
def rg1 (n : Int) : List PyData := (List.range (n + 1 - 1).toNat).map fun j : Nat => PyData.int (1 + (j : Int))
def rp (d : PyData) (z : Int) : List PyData := (List.replicate z.toNat [d]).flatten
def repsD (n : Int) : PyData := .tuple [.tuple [.int n, .int n, .int 1], .tuple ([.tuple ([.none] ++ rg0 n), .tuple (rg0 (n + 1)), .tuple (rp (.tuple [.int 0]) (n + 1))] ++ [.tuple ([.tuple (rg1 n)] ++ rp .none n), .tuple (rp (.int 0) (n + 1))]), .tuple [.tuple [.int 0], .tuple [.int 0], .tuple [.tuple (rp (.int 0) n)], .tuple [.tuple (rg0 n)], .tuple [.int 0]]]
theorem rg0_len {n : Int} : (rg0 n).length = n.toNat := by simp [rg0]
theorem rp_len {d : PyData} {n : Int} : (rp d n).length = n.toNat := by simp [rp]
theorem ne_of_pos {l : List PyData} (h : 0 < l.length) : l ≠ [] := fun z => by rw [z] at h; exact absurd h (by decide)
theorem sc_law_repeats : FnScope ["many", "sender"] ["many"] (defScope s_law_repeats) := ⟨rfl, rfl, rfl, by decide +kernel, rfl, by decide +kernel, by decide +kernel⟩
abbrev SpLP (T : List (Addr × Str)) (K : PySem.W.Frag) : Sp := SpD T K 1 (fun ds => ∃ n : Int, ds = [.int n] ∧ 1 ≤ n ∧ n ≤ 60) (fun ds d => ∃ n : Int, ds = [.int n] ∧ d = repsD n)
theorem ok_law_repeats (D : Def1 K mg "_law_repeats" s_law_repeats) (B : Bl mg) : Cal P w K mg base CX0 1 "_law_repeats" ["many"] (SpLP T K) := by
  refine cal_of D sc_law_repeats (fun _ _ _ _ _ _ us hl => match us, hl with | [_], _ => rfl) (fun vs H Q E h => h.1) (fun f cdv A outer s H vs Q E hr h => ?_)
  obtain ⟨_, R, m, ds, rfl, ok, hd, ⟨n, rfl, n1, n2⟩, q⟩ := h
  obtain ⟨v0, rfl, h1⟩ := dqa1 hd
  cases h1
  refine ⟨_, pss_cons (ps_set (i := 1) sc_law_repeats.nd rfl (.inl rfl) (pe_tup (pa_cons (pe_op op_catT (pe_tup (pa_cons pe_non pa_nil)) (pe_tupRg rfl (by rfl) B.tuple (prg_1 (by rfl) B.range (pv 0)))) (pa_cons (pe_tupRg rfl (by rfl) B.tuple (prg_1 (by rfl) B.range (pe_op op_add (pv 0) pe_int))) (pa_cons (pe_op op_repA (pe_tup (pa_cons (pe_tup (pa_cons pe_int pa_nil)) pa_nil)) (pe_op op_add (pv 0) pe_int)) pa_nil)))))
    (pss_cons (ps_set (i := 1) sc_law_repeats.nd rfl (.inl rfl) (pe_op op_catT (pv 1) (pe_tup (pa_cons (pe_op op_catT (pe_tup (pa_cons (pe_tupRg rfl (by rfl) B.tuple (prg_2 (by rfl) B.range pe_int (pe_op op_add (pv 0) pe_int))) pa_nil)) (pe_op op_repA (pe_tup (pa_cons pe_non pa_nil)) (pv 0))) (pa_cons (pe_op op_repA (pe_tup (pa_cons pe_int pa_nil)) (pe_op op_add (pv 0) pe_int)) pa_nil)))))
    (pss_one (ps_ret (pe_tup (pa_cons (pe_tup (pa_cons (pv 0) (pa_cons (pv 0) (pa_cons pe_int pa_nil)))) (pa_cons (pv 1) (pa_cons (pe_tup (pa_cons (pe_tup (pa_cons pe_int pa_nil)) (pa_cons (pe_tup (pa_cons pe_int pa_nil)) (pa_cons (pe_tup (pa_cons (pe_op op_repA (pe_tup (pa_cons pe_int pa_nil)) (pv 0)) pa_nil)) (pa_cons (pe_tup (pa_cons (pe_tupRg rfl (by rfl) B.tuple (prg_1 (by rfl) B.range (pv 0))) pa_nil)) (pa_cons (pe_tup (pa_cons pe_int pa_nil)) pa_nil)))))) pa_nil))))))), ?_⟩
  have l0 : 0 < (rg0 n).length := by rw [rg0_len]; omega
  have l2 : ∀ d, 0 < (rp d n).length := fun d => by rw [rp_len]; omega
  refine q_asg (P := dP K R _) ok (ev_tupK [.tuple ([.none] ++ rg0 n), .tuple (rg0 (n + 1)), .tuple (rp (.tuple [.int 0]) (n + 1))] (eva_d (ev_catK (ev_tupK [.none] (eva_d ev_dn eva_nil) (by decide)) (ev_trgK (ev_ivar rfl) ⟨by omega, by omega⟩ rfl) (by simp) (ne_of_pos l0) (by decide) (by rw [rg0_len]; omega)) (eva_d (ev_trgK (ev_addK (ev_ivar rfl) ev_int) ⟨by omega, by omega⟩ rfl) (eva_d (ev_repK (ev_tupK [.tuple [.int 0]] (eva_d (ev_tupK [.int 0] (eva_d ev_di eva_nil) (by decide)) eva_nil) (by decide)) (ev_addK (ev_ivar rfl) ev_int) (by simp) (by decide) ⟨by omega, by omega⟩ rfl) eva_nil))) (by show 3 ≤ 1000; decide)) fun v1 H1 x1 k1 ⟨d1, hd1, e1⟩ => ?_
  subst e1
  refine q_asg (P := dP K R _) k1 (ev_catK (ev_dvar rfl hd1) (ev_tupK [.tuple ([.tuple (rg1 n)] ++ rp .none n), .tuple (rp (.int 0) (n + 1))] (eva_d (ev_catK (ev_tupK [.tuple (rg1 n)] (eva_d (ev_trgK2 ev_int (ev_addK (ev_ivar rfl) ev_int) ⟨by decide, by decide⟩ ⟨by omega, by omega⟩ rfl) eva_nil) (by show 1 ≤ 1000; decide)) (ev_repK (ev_tupK [.none] (eva_d ev_dn eva_nil) (by decide)) (ev_ivar rfl) (by simp) (by decide) ⟨by omega, by omega⟩ rfl) (by simp) (ne_of_pos (l2 _)) (by show 1 ≤ 100000; decide) (by rw [rp_len]; omega)) (eva_d (ev_repK (ev_tupK [.int 0] (eva_d ev_di eva_nil) (by decide)) (ev_addK (ev_ivar rfl) ev_int) (by simp) (by decide) ⟨by omega, by omega⟩ rfl) eva_nil)) (by show 2 ≤ 1000; decide)) (by simp) (by simp) (by show 3 ≤ 100000; decide) (by show 2 ≤ 100000; decide)) fun v2 H2 x2 k2 ⟨d2, hd2, e2⟩ => ?_
  subst e2
  refine s_ret k2 (ev_tupK [.tuple [.int n, .int n, .int 1], _, .tuple [.tuple [.int 0], .tuple [.int 0], .tuple [.tuple (rp (.int 0) n)], .tuple [.tuple (rg0 n)], .tuple [.int 0]]] (eva_d (ev_tupK [.int n, .int n, .int 1] (eva_d (ev_dvar rfl (.int n)) (eva_d (ev_dvar rfl (.int n)) (eva_d ev_di eva_nil))) (by show 3 ≤ 1000; decide)) (eva_d (ev_dvar rfl hd2) (eva_d (ev_tupK [.tuple [.int 0], .tuple [.int 0], .tuple [.tuple (rp (.int 0) n)], .tuple [.tuple (rg0 n)], .tuple [.int 0]] (eva_d (ev_tupK [.int 0] (eva_d ev_di eva_nil) (by decide)) (eva_d (ev_tupK [.int 0] (eva_d ev_di eva_nil) (by decide)) (eva_d (ev_tupK [.tuple (rp (.int 0) n)] (eva_d (ev_repK (ev_tupK [.int 0] (eva_d ev_di eva_nil) (by decide)) (ev_ivar rfl) (by simp) (by decide) ⟨by omega, by omega⟩ rfl) eva_nil) (by show 1 ≤ 1000; decide)) (eva_d (ev_tupK [.tuple (rg0 n)] (eva_d (ev_trgK (ev_ivar rfl) ⟨by omega, by omega⟩ rfl) eva_nil) (by show 1 ≤ 1000; decide)) (eva_d (ev_tupK [.int 0] (eva_d ev_di eva_nil) (by decide)) eva_nil))))) (by show 5 ≤ 1000; decide)) eva_nil))) (by show 3 ≤ 1000; decide)) fun v H3 x3 k3 ⟨d, hd, e⟩ => ?_
  subst e
  exact q v H3 _ ((x1.trans x2).trans x3) k3 hd ⟨n, rfl, rfl⟩
end
end LW

set_option Elab.async false
set_option linter.all false
set_option maxRecDepth 100000
set_option maxHeartbeats 4000000
namespace LW
open PySem PySem.Spec PyProof.Rows L2 LamX NdefX WE WLam
/-- tables of a pair -/
def RawP (d : PyData) : Prop := ∃ a b c S G, d = .tuple [szs a b c, S, G] ∧ Sizes a b c ∧ RawS a b c S ∧ RawR a b c G
theorem allB {f : PyData → Bool} {l : List PyData} (h : l.all f = true) : ∀ it ∈ l, f it = true := List.all_eq_true.mp h
theorem allS {n m : Int} {l : List PyData} (h : l.all (isStates n m) = true) (hn : n ≤ 64) : ∀ it ∈ l, isStates n m it = true ∧ slim it := fun it hi => ⟨allB h it hi, (take_of (allB h it hi) hn).2⟩
theorem allG {n m : Int} {l : List PyData} (h : l.all (isGifts n m) = true) (hn : n ≤ 64) : ∀ it ∈ l, isGifts n m it = true ∧ slim it := fun it hi => gift_slim (allB h it hi) hn
theorem allT {n m : Int} {l : List PyData} (h : l.all (isTake n m) = true) (hn : n ≤ 64) : ∀ it ∈ l, isTake n m it = true ∧ slim it := fun it hi => ⟨allB h it hi, fun ds e => by
  have h1 := allB h it hi
  rw [e] at h1
  have h2 : isStates n m (.tuple ds) = true := h1
  exact (take_of h2 hn).2 ds rfl⟩
def okSB (a b c : Int) (s t h k r : List PyData) : Bool := decide (1 ≤ a ∧ a ≤ 64) && decide (1 ≤ b) && decide (1 ≤ c ∧ c ≤ 64) && decide (0 < s.length ∧ s.length ≤ 64 ∧ t.length = s.length ∧ h.length = s.length ∧ k.length = s.length ∧ r.length = s.length) && s.all (nonBelow b) && t.all (below s.length) && h.all (isStates c s.length) && (match k with | k0 :: _ => !isNonD k0 | [] => false) && k.all (isTake a s.length) && r.all (below s.length)
def okRB (a b c : Int) (s t h g r : List PyData) : Bool := decide (1 ≤ a ∧ a ≤ 64) && decide (1 ≤ b ∧ b ≤ 64) && decide (1 ≤ c) && decide (0 < s.length ∧ s.length ≤ 64 ∧ t.length = s.length ∧ h.length = s.length ∧ g.length = s.length ∧ r.length = s.length) && s.all (nonBelow c) && t.all (below s.length) && h.all (isStates b s.length) && g.all (isGifts b a) && r.all (below s.length)
theorem okS_of {a b c : Int} {s t h k r : List PyData} (z : okSB a b c s t h k r = true) : RawS a b c (.tuple [.tuple s, .tuple t, .tuple h, .tuple k, .tuple r]) := by
  unfold okSB at z
  simp only [Bool.and_eq_true, decide_eq_true_eq] at z
  obtain ⟨⟨⟨⟨⟨⟨⟨⟨⟨a1, b1⟩, c1⟩, l0, l1, l2, l3, l4, l5⟩, s_⟩, t_⟩, h_⟩, k0⟩, k_⟩, r_⟩ := z
  refine ⟨s, t, h, k, r, rfl, ⟨a1.1, b1, c1.1, ne_of_pos l0, l2, l3, l4, l5, allB s_, allB t_, allS h_ c1.2, ?_, allT k_ a1.2, allB r_⟩, l1⟩
  cases k with
  | nil => cases k0
  | cons k0' kr => exact ⟨k0', kr, rfl, by simpa using k0⟩
theorem okR_of {a b c : Int} {s t h g r : List PyData} (z : okRB a b c s t h g r = true) : RawR a b c (.tuple [.tuple s, .tuple t, .tuple h, .tuple g, .tuple r]) := by
  unfold okRB at z
  simp only [Bool.and_eq_true, decide_eq_true_eq] at z
  obtain ⟨⟨⟨⟨⟨⟨⟨⟨a1, b1⟩, c1⟩, l0, l1, l2, l3, l4, l5⟩, s_⟩, t_⟩, h_⟩, g_⟩, r_⟩ := z
  exact ⟨s, t, h, g, r, rfl, ⟨a1.1, b1.1, c1, ne_of_pos l0, l2, l3, l4, l5, allB s_, allB t_, allS h_ b1.2, allG g_ b1.2, allB r_⟩, l1⟩
theorem raw_turns (b : Bool) : RawP (turnsD b) := ⟨1, 2, 2, _, _, rfl, by unfold Sizes; decide, by cases b <;> exact okS_of (by decide +kernel), by cases b <;> exact okR_of (by decide +kernel)⟩
theorem raw_greets (b : Bool) : RawP (greetsD b) := ⟨1, 2, 2, _, _, rfl, by unfold Sizes; decide, okS_of (by decide +kernel), by cases b <;> exact okR_of (by decide +kernel)⟩
theorem raw_reps {n : Int} (h : n = 1 ∨ n = 2) : RawP (repsD n) := by
  rcases h with rfl | rfl
  · exact ⟨1, 1, 1, _, _, rfl, by unfold Sizes; decide, okS_of (by decide +kernel), okR_of (by decide +kernel)⟩
  · exact ⟨2, 2, 1, _, _, rfl, by unfold Sizes; decide, okS_of (by decide +kernel), okR_of (by decide +kernel)⟩
end LW

set_option Elab.async false
set_option linter.all false
set_option maxRecDepth 100000
set_option maxHeartbeats 4000000
namespace LW
open PySem PySem.Spec PyProof.Rows L2 LamX NdefX WE WLam
section
variable {P : Program} {w : World} {K : PySem.W.Frag} {mg : Str → Option Value} {base : Heap} {T : List (Addr × Str)} {CP CS CR : Addr}
/-- the class can be called with three numbers and five tables -/
structure MkC (P : Program) (w : World) (K : PySem.W.Frag) (mg : Str → Option Value) (base : Heap) (x : Str) (C : Addr) (ks : List Str) (sp : Sp) : Prop where
  ex : ∃ (fI : Addr) (fd : FuncData), Mk K C fI ∧ mg x = some (.ref C) ∧ FnOk P w K mg base CX0 8 fI fd ((["self", "value_count", "forward", "backward"] : List Str) ++ ks) sp ∧ KBn K fd ((["self", "value_count", "forward", "backward"] : List Str) ++ ks) (3 + 1) ks (fun us ws => us ++ ws) (fun vs zs => vs ++ zs)
abbrev ksS : List Str := ["sends", "ticks", "hears", "takes", "crashes"]
abbrev ksR : List Str := ["sends", "ticks", "hears", "gives", "crashes"]
theorem mk_sender {fI : Addr} (D : DefM K "__init__" "Sender.__init__" s_Sender_init fI) (X : ClsX K mg "Sender" CS fI ["_value_count", "_forward", "_backward", "_sends", "_ticks", "_hears", "_takes", "_crashes"]) (C5 : Tabs5 P w K mg base T) : MkC P w K mg base "Sender" CS ksS (SpSI T K CS) := by
  obtain ⟨fd, F, h⟩ := ok_Sender_init D X C5
  exact ⟨fI, fd, X.mkr, X.mgC, h, kbn35 F fun _ _ _ _ _ _ us ws h1 h2 => match us, ws, h1, h2 with | [_, _, _, _], [_, _, _, _, _], _, _ => rfl⟩
theorem mk_receiver {fI : Addr} (D : DefM K "__init__" "Receiver.__init__" s_Receiver_init fI) (X : ClsX K mg "Receiver" CR fI ["_value_count", "_forward", "_backward", "_sends", "_ticks", "_hears", "_gives", "_crashes"]) (C5 : Tabs5 P w K mg base T) : MkC P w K mg base "Receiver" CR ksR (SpRI T K CR) := by
  obtain ⟨fd, F, h⟩ := ok_Receiver_init D X C5
  exact ⟨fI, fd, X.mkr, X.mgC, h, kbn35 F fun _ _ _ _ _ _ us ws h1 h2 => match us, ws, h1, h2 with | [_, _, _, _], [_, _, _, _, _], _, _ => rfl⟩
section
variable {X : Cx} {C : Addr} {x : Str} {ks : List Str} {sp : Sp} {j : Nat} {e : Expr} {es : List Expr} {kws : List Keyword} {t tk : TA} {p pos : Pos}
theorem pe_mk3 (M : MkC X.prog X.w X.K X.mg X.base x C ks sp) (hr : Room j X.A) (hj : 9 ≤ j) (hg : Gl X x) (ha : PA X (e :: es) t) (hk : PK X kws tk) (h1 : ((backToKw pos (keywordEach kws X.env)).all fun x => x.1.isSome) = true := by rfl) (h2 : (backToKw pos (keywordEach kws X.env)).filterMap (fun x => x.1) = ks := by rfl)
    (h3 : (x == ("__debug__" : Str)) = false := by decide) (h4 : starEach (e :: es) X.env = (false, eval e X.env) :: starEach es X.env := by rfl) (h5 : (((backTo pos (starEach (e :: es) X.env)).any fun x => x.1) || (backToKw pos (keywordEach kws X.env)).any fun x => x.1.isNone) = false := by rfl) :
    PE X (.Call (.Name x p) (e :: es) kws pos) (tMakeK C 3 ks.length sp (fun vs zs => vs ++ zs) E0 t tk) := by
  obtain ⟨fI, fd, m1, m2, m3, m4⟩ := M.ex
  exact pe_makeK m1 m3 (hr.mono (by omega)) hg m2 m4 pass0 ha hk h1 h2 h3 h4 h5
end
/-! ### _law_made_sender, _law_made_receiver -/
theorem sc_law_made_sender : FnScope ["sizes", "one"] ["sizes", "one"] (defScope s_law_made_sender) := ⟨rfl, rfl, rfl, by decide +kernel, rfl, by decide +kernel, by decide +kernel⟩
abbrev tabs5 (s t h k r : List PyData) : PyData := .tuple [.tuple s, .tuple t, .tuple h, .tuple k, .tuple r]
def SpMS (T : List (Addr × Str)) (K : PySem.W.Frag) (CS : Addr) : Sp := fun vs H Q _ => vs.length = 2 ∧ ∃ (R : Rs) (m : Nat) (a b c : Int) (s t h k r : List PyData), R.T = T ∧ Ok R m H ∧ DqAll K R.M H vs [szs a b c, tabs5 s t h k r] ∧ OkS a b c s t h k r ∧
  ∀ v H', Xt R H H' → Ok R m H' → (oP K R CS (sndF a b c s t h k r)).r v H' → Q v H'
def SpMR (T : List (Addr × Str)) (K : PySem.W.Frag) (CR : Addr) : Sp := fun vs H Q _ => vs.length = 2 ∧ ∃ (R : Rs) (m : Nat) (a b c : Int) (s t h g r : List PyData), R.T = T ∧ Ok R m H ∧ DqAll K R.M H vs [szs a b c, tabs5 s t h g r] ∧ OkR a b c s t h g r ∧
  ∀ v H', Xt R H H' → Ok R m H' → (oP K R CR (rcvF a b c s t h g r)).r v H' → Q v H'
theorem ok_law_made_sender (D : Def1 K mg "_law_made_sender" s_law_made_sender) (M : MkC P w K mg base "Sender" CS ksS (SpSI T K CS)) : Cal P w K mg base CX0 10 "_law_made_sender" ["sizes", "one"] (SpMS T K CS) := by
  refine cal_of D sc_law_made_sender (fun _ _ _ _ _ _ us hl => match us, hl with | [_, _], _ => rfl) (fun vs H Q E h => h.1) (fun f cdv A outer s0 H vs Q E hr h => ?_)
  obtain ⟨_, R, m, a, b, c, s, t, h, k, r, rfl, ok, hd, O, q⟩ := h
  obtain ⟨v1, v2, rfl, h1, h2⟩ := dqa2 hd
  refine ⟨_, pss_one (ps_ret (pe_mk3 M hr (by decide) (by rfl) (pa_cons (pe_ix (r := rIx K) ix_seq (pv 0) pe_int (fun _ _ => rfl)) (pa_cons (pe_ix (r := rIx K) ix_seq (pv 0) pe_int (fun _ _ => rfl)) (pa_cons (pe_ix (r := rIx K) ix_seq (pv 0) pe_int (fun _ _ => rfl)) pa_nil)))
    (pk_cons (pe_ix (r := rIx K) ix_seq (pv 1) pe_int (fun _ _ => rfl)) (pk_cons (pe_ix (r := rIx K) ix_seq (pv 1) pe_int (fun _ _ => rfl)) (pk_cons (pe_ix (r := rIx K) ix_seq (pv 1) pe_int (fun _ _ => rfl)) (pk_cons (pe_ix (r := rIx K) ix_seq (pv 1) pe_int (fun _ _ => rfl)) (pk_cons (pe_ix (r := rIx K) ix_seq (pv 1) pe_int (fun _ _ => rfl)) pk_nil))))))), ?_⟩
  exact s_ret ok (ev_mkS (eva_d (ev_at rfl h1 0 rfl rfl) (eva_d (ev_at rfl h1 1 rfl rfl) (eva_d (ev_at rfl h1 2 rfl rfl) eva_nil))) (eva_d (ev_at rfl h2 0 rfl rfl) (eva_d (ev_at rfl h2 1 rfl rfl) (eva_d (ev_at rfl h2 2 rfl rfl) (eva_d (ev_at rfl h2 3 rfl rfl) (eva_d (ev_at rfl h2 4 rfl rfl) eva_nil))))) (.inl rfl) (.inl rfl) (.inl rfl) (.inl rfl) (.inl rfl) O) fun v H1 x1 k1 r => q v H1 x1 k1 r
theorem sc_law_made_receiver : FnScope ["sizes", "one", "many", "there", "back"] ["sizes", "one"] (defScope s_law_made_receiver) := ⟨rfl, rfl, rfl, by decide +kernel, rfl, by decide +kernel, by decide +kernel⟩
theorem ok_law_made_receiver (D : Def1 K mg "_law_made_receiver" s_law_made_receiver) (M : MkC P w K mg base "Receiver" CR ksR (SpRI T K CR)) : Cal P w K mg base CX0 10 "_law_made_receiver" ["sizes", "one"] (SpMR T K CR) := by
  refine cal_of D sc_law_made_receiver (fun _ _ _ _ _ _ us hl => match us, hl with | [_, _], _ => rfl) (fun vs H Q E h => h.1) (fun f cdv A outer s0 H vs Q E hr h => ?_)
  obtain ⟨_, R, m, a, b, c, s, t, h, k, r, rfl, ok, hd, O, q⟩ := h
  obtain ⟨v1, v2, rfl, h1, h2⟩ := dqa2 hd
  refine ⟨_, pss_cons (ps_asg (pv 0) (pg_tup rfl (pgs_cons (pg_name (i := 2) sc_law_made_receiver.nd rfl (.inl rfl)) (pgs_cons (pg_name (i := 3) sc_law_made_receiver.nd rfl (.inl rfl)) (pgs_cons (pg_name (i := 4) sc_law_made_receiver.nd rfl (.inl rfl)) pgs_nil)))))
    (pss_one (ps_ret (pe_mk3 M hr (by decide) (by rfl) (pa_cons (pv 2) (pa_cons (pv 3) (pa_cons (pv 4) pa_nil)))
    (pk_cons (pe_ix (r := rIx K) ix_seq (pv 1) pe_int (fun _ _ => rfl)) (pk_cons (pe_ix (r := rIx K) ix_seq (pv 1) pe_int (fun _ _ => rfl)) (pk_cons (pe_ix (r := rIx K) ix_seq (pv 1) pe_int (fun _ _ => rfl)) (pk_cons (pe_ix (r := rIx K) ix_seq (pv 1) pe_int (fun _ _ => rfl)) (pk_cons (pe_ix (r := rIx K) ix_seq (pv 1) pe_int (fun _ _ => rfl)) pk_nil)))))))), ?_⟩
  obtain ⟨al, xs, rfl, hT, hA⟩ := dq_tup h1
  obtain ⟨u1, u2, u3, rfl, g1, g2, g3⟩ := dqa3 hA
  cases g1
  cases g2
  cases g3
  refine ⟨_, rfl, al, _, rfl, hT, rfl, _, _, rfl, _, _, rfl, _, _, rfl, rfl, ?_⟩
  exact s_ret ok (ev_mkR (eva_d (ev_dvar rfl (.int a)) (eva_d (ev_dvar rfl (.int b)) (eva_d (ev_dvar rfl (.int c)) eva_nil))) (eva_d (ev_at rfl h2 0 rfl rfl) (eva_d (ev_at rfl h2 1 rfl rfl) (eva_d (ev_at rfl h2 2 rfl rfl) (eva_d (ev_at rfl h2 3 rfl rfl) (eva_d (ev_at rfl h2 4 rfl rfl) eva_nil))))) (.inl rfl) (.inl rfl) (.inl rfl) (.inl rfl) (.inl rfl) O) fun v H1 x1 k1 r => q v H1 x1 k1 r
end
end LW

set_option Elab.async false
set_option linter.all false
set_option maxRecDepth 100000
set_option maxHeartbeats 4000000
namespace LW
open PySem PySem.Spec PyProof.Rows L2 LamX NdefX WE WLam
section
variable {P : Program} {w : World} {K : PySem.W.Frag} {mg : Str → Option Value} {base : Heap} {T : List (Addr × Str)} {CP CS CR : Addr}
/-! ### _law_raw -/
structure Lx (P : Program) (w : World) (K : PySem.W.Frag) (mg : Str → Option Value) (base : Heap) (T : List (Addr × Str)) : Prop where
  turns : Cal P w K mg base CX0 1 "_law_turns" ["is_kept"] (SpLT T K)
  greets : Cal P w K mg base CX0 1 "_law_greets" ["is_mute"] (SpLG T K)
  reps : Cal P w K mg base CX0 1 "_law_repeats" ["many"] (SpLP T K)
  sender : Cal P w K mg base CX0 5 "_law_sender" ["purse", "sizes", "top"] (SpLS T K)
  receiver : Cal P w K mg base CX0 5 "_law_receiver" ["purse", "sizes", "top"] (SpLR T K)
theorem sc_law_raw : FnScope ["purse", "pace", "sizes"] ["purse"] (defScope s_law_raw) := ⟨rfl, rfl, rfl, by decide +kernel, rfl, by decide +kernel, by decide +kernel⟩
abbrev SpRaw (T : List (Addr × Str)) (K : PySem.W.Frag) : Sp := SpP T K 0 50000 (fun ds => ds = []) (fun _ d => RawP d)
section
variable {R : Rs} {σ : L2.St} {H : Hp} {n m k : Nat} {te ta tb : TE} {pi : Int → Prop}
theorem ev_lt (ha : Ev R n k ta σ H (iP R pi)) {z : Int} (hb : Ev R k m tb σ H (iP R (· = z))) : Ev R n m (tOp (rI0 fun i j => .bl (decide (i < j))) ta tb) σ H (bP R fun _ => True) := ev_I0 ha hb fun _ _ _ _ _ => ⟨_, rfl, trivial⟩
end
theorem ev_size1 {a : Addr} {σ : L2.St} {H : Hp} {m i : Nat} {z : Int} (hv : σ[i]? = some (some (.ref a))) (h1 : 1 ≤ z) (h2 : z ≤ 60) : Ev (RP T a) (m + 1) m (tOp (rI0 fun i j => .int (i + j)) (tC (.int 1)) (tCall (SpDr T) [] E0 (tCons (tVar i) (tCons (tC (.int z)) tNil)))) σ H (iP (RP T a) fun y => 1 ≤ y ∧ y ≤ z) :=
  ev_I0 ev_int (ev_draw hv ev_int fun i e => by subst e; omega) fun i j _ e1 ⟨y, e2, e3, e4⟩ => ⟨_, rfl, by subst e1 e2; omega⟩
theorem ok_law_raw (D : Def1 K mg "_law_raw" s_law_raw) (L : Lw P w K mg base T) (Lb : Lx P w K mg base T) : Cal P w K mg base CX0 6 "_law_raw" ["purse"] (SpRaw T K) := by
  refine cal_of D sc_law_raw (fun _ _ _ _ _ _ us hl => match us, hl with | [_], _ => rfl) (fun vs H Q E h => h.1) (fun f cdv A outer s H vs Q E hr h => ?_)
  obtain ⟨_, p, kk, us, ds, rfl, ok, hd, rfl, q⟩ := h
  have := dqa0 hd
  subst this
  refine ⟨_, pss_cons (ps_set (i := 1) sc_law_raw.nd rfl (.inl rfl) (pe_cal L.draw hr (by decide) (by rfl) pass0 (pa_cons (pv 0) (pa_cons pe_int pa_nil))))
    (pss_cons (ps_if (pt_cmpR op_lt (pv 1) pe_int (nomark _)) (pss_one (ps_ret (pe_cal Lb.turns hr (by decide) (by rfl) pass0 (pa_cons (pe_cmpR op_eq (pv 1) pe_int (nomark _)) pa_nil)))) pss_nil)
    (pss_cons (ps_if (pt_cmpR op_lt (pv 1) pe_int (nomark _)) (pss_one (ps_ret (pe_cal Lb.greets hr (by decide) (by rfl) pass0 (pa_cons (pe_cmpR op_eq (pv 1) pe_int (nomark _)) pa_nil)))) pss_nil)
    (pss_cons (ps_if (pt_cmpR op_lt (pv 1) pe_int (nomark _)) (pss_one (ps_ret (pe_cal Lb.reps hr (by decide) (by rfl) pass0 (pa_cons (pe_op op_add pe_int (pe_cal L.draw hr (by decide) (by rfl) pass0 (pa_cons (pv 0) (pa_cons pe_int pa_nil)))) pa_nil)))) pss_nil)
    (pss_cons (ps_set (i := 2) sc_law_raw.nd rfl (.inl rfl) (pe_tup (pa_cons (pe_op op_add pe_int (pe_cal L.draw hr (by decide) (by rfl) pass0 (pa_cons (pv 0) (pa_cons pe_int pa_nil)))) (pa_cons (pe_op op_add pe_int (pe_cal L.draw hr (by decide) (by rfl) pass0 (pa_cons (pv 0) (pa_cons pe_int pa_nil)))) (pa_cons (pe_op op_add pe_int (pe_cal L.draw hr (by decide) (by rfl) pass0 (pa_cons (pv 0) (pa_cons pe_int pa_nil)))) pa_nil)))))
    (pss_one (ps_ret (pe_tup (pa_cons (pv 2) (pa_cons (pe_cal Lb.sender hr (by decide) (by rfl) pass0 (pa_cons (pv 0) (pa_cons (pv 2) (pa_cons pe_int pa_nil)))) (pa_cons (pe_cal Lb.receiver hr (by decide) (by rfl) pass0 (pa_cons (pv 0) (pa_cons (pv 2) (pa_cons pe_int pa_nil)))) pa_nil)))))))))), ?_⟩
  refine q_asg (m := kk + 49999) ok (ev_draw rfl ev_int fun i e => by subst e; omega) fun v H1 x1 k1 ⟨pace, e, _⟩ => ?_
  subst e
  have boolE : ∀ {H : Hp} {σ : L2.St} {m : Nat} {z : Int}, σ[1]? = some (some (.int pace)) → EvA (RP T p) m m (tCons (tOp rEq (tVar 1) (tC (.int z))) tNil) σ H ([dB fun _ => True].map (dP K (RP T p))) := fun h => eva_d (ev_ofB ((ev_eqI (ev_ivar h) ev_int).imp fun v H' _ ⟨b, e, _⟩ => ⟨b, e, trivial⟩)) eva_nil
  refine q_if k1 (evt_test (ev_lt (ev_ivar rfl) ev_int)) (fun _ H2 x2 k2 => ?_) fun _ H2 x2 k2 => ?_
  · refine s_ret k2 (ev_callD (ps := [dB fun _ => True]) (boolE rfl) rfl fun ds h => ?_) fun v H3 x3 k3 ⟨d, hd, ds, h, b, e, e2⟩ => ?_
    · obtain ⟨_, _, rfl, ⟨b, rfl, _⟩, rfl⟩ := h
      exact ⟨b, rfl⟩
    · exact q v H3 d ((x1.trans x2).trans x3) (k3.mono (by omega)) hd (e2 ▸ raw_turns b)
  · refine q_if k2 (evt_test (ev_lt (ev_ivar rfl) ev_int)) (fun _ H3 x3 k3 => ?_) fun _ H3 x3 k3 => ?_
    · refine s_ret k3 (ev_callD (ps := [dB fun _ => True]) (boolE rfl) rfl fun ds h => ?_) fun v H4 x4 k4 ⟨d, hd, ds, h, b, e, e2⟩ => ?_
      · obtain ⟨_, _, rfl, ⟨b, rfl, _⟩, rfl⟩ := h
        exact ⟨b, rfl⟩
      · exact q v H4 d (((x1.trans x2).trans x3).trans x4) (k4.mono (by omega)) hd (e2 ▸ raw_greets b)
    · refine q_if k3 (evt_test (ev_lt (ev_ivar rfl) ev_int)) (fun _ H4 x4 k4 => ?_) fun _ H4 x4 k4 => ?_
      · refine s_ret (m := kk + 49998) k4 (ev_callD (ps := [dI fun z => 1 ≤ z ∧ z ≤ 2]) (eva_d (ev_ofI (ev_size1 rfl (by decide) (by decide))) eva_nil) rfl fun ds h => ?_) fun v H5 x5 k5 ⟨d, hd, ds, h, n, e, e2⟩ => ?_
        · obtain ⟨_, _, rfl, ⟨z, rfl, z1, z2⟩, rfl⟩ := h
          exact ⟨z, rfl, z1, by omega⟩
        · obtain ⟨_, _, rfl, ⟨z, rfl, z1, z2⟩, rfl⟩ := h
          cases e
          refine q v H5 d ((((x1.trans x2).trans x3).trans x4).trans x5) (k5.mono (by omega)) hd ?_
          rw [e2]
          exact raw_reps (by omega)
      · refine q_asg (m := kk + 49996) (P := dP K (RP T p) _) k4 (ev_dtup (ps := [dI fun z => 1 ≤ z ∧ z ≤ 2, dI fun z => 1 ≤ z ∧ z ≤ 3, dI fun z => 1 ≤ z ∧ z ≤ 3]) (eva_d (ev_ofI (ev_size1 rfl (by decide) (by decide))) (eva_d (ev_ofI (ev_size1 rfl (by decide) (by decide))) (eva_d (ev_ofI (ev_size1 rfl (by decide) (by decide))) eva_nil))) (by show 3 ≤ 1000; decide)) fun v H5 x5 k5 ⟨d, hd, ds, e, h⟩ => ?_
        obtain ⟨_, _, rfl, ⟨a, rfl, a1, a2⟩, _, _, rfl, ⟨b, rfl, b1, b2⟩, _, _, rfl, ⟨c, rfl, c1, c2⟩, rfl⟩ := h
        subst e
        have sz : Sizes a b c := ⟨⟨a1, by omega⟩, ⟨b1, by omega⟩, ⟨c1, by omega⟩⟩
        refine s_ret (m := kk) (k5.mono (show kk + 20000 + 20000 ≤ kk + 49996 by omega)) (ev_dtup (ps := [(· = szs a b c), RawS a b c, RawR a b c]) (eva_d (ev_dvar rfl hd) (eva_d ((ev_callP (ps := [(· = szs a b c), (· = .int 4)]) rfl (eva_d (ev_dvar rfl hd) (eva_d ev_di eva_nil)) rfl fun ds h => ?_).imp fun v H' _ ⟨d, hd, ds, h, a', b', c', t', e, e2⟩ => ⟨d, hd, ?_⟩) (eva_d ((ev_callP (ps := [(· = szs a b c), (· = .int 4)]) rfl (eva_d (ev_dvar rfl hd) (eva_d ev_di eva_nil)) rfl fun ds h => ?_).imp fun v H' _ ⟨d, hd, ds, h, a', b', c', t', e, e2⟩ => ⟨d, hd, ?_⟩) eva_nil))) (by show 3 ≤ 1000; decide)) fun v H6 x6 k6 ⟨d, hd, ds, e, h⟩ => ?_
        · obtain ⟨_, _, rfl, rfl, _, _, rfl, rfl, rfl⟩ := h
          exact ⟨a, b, c, 4, rfl, sz, by decide, by decide⟩
        · obtain ⟨_, _, rfl, rfl, _, _, rfl, rfl, rfl⟩ := h
          cases e
          exact e2
        · obtain ⟨_, _, rfl, rfl, _, _, rfl, rfl, rfl⟩ := h
          exact ⟨a, b, c, 4, rfl, sz, by decide, by decide⟩
        · obtain ⟨_, _, rfl, rfl, _, _, rfl, rfl, rfl⟩ := h
          cases e
          exact e2
        · obtain ⟨_, _, rfl, rfl, _, _, rfl, hS, _, _, rfl, hR, rfl⟩ := h
          refine q v H6 d (((((x1.trans x2).trans x3).trans x4).trans x5).trans x6) k6 hd ⟨a, b, c, _, _, e, sz, hS, hR⟩
/-! ### _law_made -/
structure MkP (P : Program) (w : World) (K : PySem.W.Frag) (mg : Str → Option Value) (base : Heap) (T : List (Addr × Str)) (CP CS CR : Addr) : Prop where
  ex : ∃ (fI : Addr) (fd : FuncData), Mk K CP fI ∧ mg "Pair" = some (.ref CP) ∧ FnOk P w K mg base CX0 4 fI fd ["self", "sender", "receiver"] (SpPI T K CP CS CR) ∧ Binds K fd ["self", "sender", "receiver"] []
theorem mk_pair {fI : Addr} (D : DefM K "__init__" "Pair.__init__" s_Pair_init fI) (X : Fld2 K mg CP CS CR fI) (B : Bl mg) (NS : Cnt3 P w K mg base CS) (NR : Cnt3 P w K mg base CR) (C1 : Cal P w K mg base CX0 3 "counts" ["program"] (SpCnt P w T K mg base)) : MkP P w K mg base T CP CS CR := by
  obtain ⟨fd, F, h⟩ := ok_Pair_init D X B NS NR C1
  exact ⟨fI, fd, X.cp.mkr, X.cp.mgC, h, F.bindsN fun _ _ _ _ _ _ us hl => match us, hl with | [_, _, _], _ => rfl⟩
section
variable {X : Cx} {j : Nat} {e : Expr} {es : List Expr} {t : TA} {p pos : Pos}
theorem pe_mkp (M : MkP X.prog X.w X.K X.mg X.base T CP CS CR) (hr : Room j X.A) (hj : 5 ≤ j) (hg : Gl X "Pair") (ha : PA X (e :: es) t) (h4 : starEach (e :: es) X.env = (false, eval e X.env) :: starEach es X.env := by rfl) (h5 : (backTo pos (starEach es X.env)).any (fun x => x.1) = false := by rfl) :
    PE X (.Call (.Name "Pair" p) (e :: es) [] pos) (tMake CP (SpPI T X.K CP CS CR) [] E0 t) := by
  obtain ⟨fI, fd, m1, m2, m3, m4⟩ := M.ex
  exact pe_make m1 m3 (hr.mono (by omega)) hg m2 m4 .nil pass0 ha (by decide) h4 h5
end
theorem sc_law_made : FnScope ["raw"] ["raw"] (defScope s_law_made) := ⟨rfl, rfl, rfl, by decide +kernel, rfl, by decide +kernel, by decide +kernel⟩
def SpMd (T : List (Addr × Str)) (K : PySem.W.Frag) (CP CS CR : Addr) : Sp := fun vs H Q _ => vs.length = 1 ∧ ∃ (R : Rs) (m : Nat) (a b c : Int) (s t h k r s' t' h' g' r' : List PyData), R.T = T ∧ Ok R m H ∧ DqAll K R.M H vs [.tuple [szs a b c, tabs5 s t h k r, tabs5 s' t' h' g' r']] ∧ OkS a b c s t h k r ∧ OkR a b c s' t' h' g' r' ∧
  ∀ v H', Xt R H H' → Ok R m H' → (pP K R CP CS CR (sndF a b c s t h k r) (rcvF a b c s' t' h' g' r')).r v H' → Q v H'
theorem ok_law_made (D : Def1 K mg "_law_made" s_law_made) (MP : MkP P w K mg base T CP CS CR) (C1 : Cal P w K mg base CX0 10 "_law_made_sender" ["sizes", "one"] (SpMS T K CS)) (C2 : Cal P w K mg base CX0 10 "_law_made_receiver" ["sizes", "one"] (SpMR T K CR)) : Cal P w K mg base CX0 11 "_law_made" ["raw"] (SpMd T K CP CS CR) := by
  refine cal_of D sc_law_made (fun _ _ _ _ _ _ us hl => match us, hl with | [_], _ => rfl) (fun vs H Q E h => h.1) (fun f cdv A outer s0 H vs Q E hr h => ?_)
  obtain ⟨_, R, m, a, b, c, s, t, h, k, r, s', t', h', g', r', rfl, ok, hd, O1, O2, q⟩ := h
  obtain ⟨v1, rfl, h1⟩ := dqa1 hd
  refine ⟨_, pss_one (ps_ret (pe_mkp MP hr (by decide) (by rfl) (pa_cons (pe_cal C1 hr (by decide) (by rfl) pass0 (pa_cons (pe_ix (r := rIx K) ix_seq (pv 0) pe_int (fun _ _ => rfl)) (pa_cons (pe_ix (r := rIx K) ix_seq (pv 0) pe_int (fun _ _ => rfl)) pa_nil)))
    (pa_cons (pe_cal C2 hr (by decide) (by rfl) pass0 (pa_cons (pe_ix (r := rIx K) ix_seq (pv 0) pe_int (fun _ _ => rfl)) (pa_cons (pe_ix (r := rIx K) ix_seq (pv 0) pe_int (fun _ _ => rfl)) pa_nil))) pa_nil)))), ?_⟩
  have e1 : Ev R m m (tCall (SpMS R.T K CS) [] E0 (tCons (tOp (rIx K) (tVar 0) (tC (.int 0))) (tCons (tOp (rIx K) (tVar 0) (tC (.int 1))) tNil))) (L2.start ["raw"] [v1]) H (oP K R CS (sndF a b c s t h k r)) :=
    ev_call (Ps := [(· = szs a b c), (· = tabs5 s t h k r)].map (dP K R)) (eva_d (ev_at rfl h1 0 rfl rfl) (eva_d (ev_at rfl h1 1 rfl rfl) eva_nil)) fun vs H1 x1 k1 r1 Q q => by
      obtain ⟨ds, g1, ⟨_, _, rfl, rfl, _, _, rfl, rfl, rfl⟩, g3⟩ := allR_D r1
      exact ⟨g3, R, m, a, b, c, s, t, h, k, r, rfl, k1, g1, O1, q⟩
  have e2 : Ev R m m (tCall (SpMR R.T K CR) [] E0 (tCons (tOp (rIx K) (tVar 0) (tC (.int 0))) (tCons (tOp (rIx K) (tVar 0) (tC (.int 2))) tNil))) (L2.start ["raw"] [v1]) H (oP K R CR (rcvF a b c s' t' h' g' r')) :=
    ev_call (Ps := [(· = szs a b c), (· = tabs5 s' t' h' g' r')].map (dP K R)) (eva_d (ev_at rfl h1 0 rfl rfl) (eva_d (ev_at rfl h1 2 rfl rfl) eva_nil)) fun vs H1 x1 k1 r1 Q q => by
      obtain ⟨ds, g1, ⟨_, _, rfl, rfl, _, _, rfl, rfl, rfl⟩, g3⟩ := allR_D r1
      exact ⟨g3, R, m, a, b, c, s', t', h', g', r', rfl, k1, g1, O2, q⟩
  exact s_ret ok (ev_mkP (a := a) (b := b) (c := c) e1 e2 (by simp [sndF]) (by simp [rcvF])) fun v H1 x1 k1 r => q v H1 x1 k1 r
end
end LW

set_option Elab.async false
set_option linter.all false
set_option maxRecDepth 100000
set_option maxHeartbeats 4000000
namespace LW
open PySem PySem.Spec PyProof.Rows L2 LamX NdefX WE WLam WQ
/-! ### data of bounded depth -/
structure Lay (k : Nat) (d : PyData) : Prop where
  lay : d.canLay0 = true
  dep : d.depth ≤ k
theorem Lay.mono {j k : Nat} {d : PyData} (h : Lay j d) (hjk : j ≤ k) : Lay k d := ⟨h.lay, Nat.le_trans h.dep hjk⟩
theorem Lay.shaped {k : Nat} {d : PyData} (h : Lay k d) (hk : k ≤ 64) : SeqAt.shaped d = true := by
  unfold SeqAt.shaped
  rw [h.lay, Bool.true_and]
  exact decide_eq_true (Nat.le_trans h.dep hk)
theorem lay_int {k : Nat} {i : Int} : Lay k (.int i) := ⟨by unfold PyData.canLay0; rfl, by unfold PyData.depth; exact Nat.zero_le _⟩
theorem lay_non {k : Nat} : Lay k .none := ⟨by unfold PyData.canLay0; rfl, by unfold PyData.depth; exact Nat.zero_le _⟩
theorem lay_all {k : Nat} : ∀ {ds : List PyData}, (∀ d ∈ ds, Lay k d) → PyData.canLayAll0 ds = true ∧ PyData.depthAll ds ≤ k
  | [], _ => ⟨by unfold PyData.canLayAll0; rfl, by unfold PyData.depthAll; exact Nat.zero_le _⟩
  | d :: ds, h => by
    obtain ⟨h1, h2⟩ := lay_all fun e he => h e (List.mem_cons_of_mem _ he)
    have h3 := h d (List.mem_cons_self ..)
    constructor
    · unfold PyData.canLayAll0
      rw [h3.lay, h1] <;> rfl
    · unfold PyData.depthAll
      exact Nat.max_le.mpr ⟨h3.dep, h2⟩
theorem lay_tup {k : Nat} {ds : List PyData} (h : ∀ d ∈ ds, Lay k d) : Lay (k + 1) (.tuple ds) := by
  obtain ⟨h1, h2⟩ := lay_all h
  constructor
  · unfold PyData.canLay0
    exact h1
  · unfold PyData.depth
    exact Nat.succ_le_succ h2
theorem lay_lst {k : Nat} {ds : List PyData} (h : ∀ d ∈ ds, Lay k d) : Lay (k + 1) (.list ds) := by
  obtain ⟨h1, h2⟩ := lay_all h
  constructor
  · unfold PyData.canLay0
    exact h1
  · unfold PyData.depth
    exact Nat.succ_le_succ h2
theorem lay_below {n : Int} {d : PyData} (h : below n d = true) : Lay 0 d := by cases d <;> first | exact lay_int | cases h
theorem lay_nonBelow {n : Int} {d : PyData} (h : nonBelow n d = true) : Lay 0 d := by cases d <;> first | exact lay_int | exact lay_non | cases h
theorem lay_states {n m : Int} {d : PyData} (h : isStates n m d = true) : Lay 1 d := by
  obtain ⟨ds, rfl, _, h2⟩ := states_inv h
  exact lay_tup fun d hd => lay_below (h2 d hd)
theorem lay_gifts {n m : Int} {d : PyData} (h : isGifts n m d = true) : Lay 1 d := by
  obtain ⟨ds, rfl, _, h2⟩ := gifts_inv h
  exact lay_tup fun d hd => lay_nonBelow (h2 d hd)
theorem lay_take {n m : Int} {d : PyData} (h : isTake n m d = true) : Lay 1 d := by
  unfold isTake at h
  rcases Bool.or_eq_true_iff.mp h with z | z
  · cases d <;> first | exact lay_non | cases z
  · exact lay_states z
/-- the eight data of a program -/
abbrev dat8 (a b c : Int) (s t h k r : List PyData) : List PyData := [.int a, .int b, .int c, .tuple s, .tuple t, .tuple h, .tuple k, .tuple r]
theorem OkS.lay {a b c : Int} {s t h k r : List PyData} (O : OkS a b c s t h k r) : ∀ d ∈ dat8 a b c s t h k r, Lay 2 d := by
  intro d hd
  simp only [dat8, List.mem_cons, List.mem_nil_iff, or_false] at hd
  rcases hd with rfl | rfl | rfl | rfl | rfl | rfl | rfl | rfl
  · exact lay_int
  · exact lay_int
  · exact lay_int
  · exact (lay_tup fun d hd => lay_nonBelow (O.s_ d hd)).mono (by decide)
  · exact (lay_tup fun d hd => lay_below (O.t_ d hd)).mono (by decide)
  · exact lay_tup fun d hd => lay_states (O.h_ d hd).1
  · exact lay_tup fun d hd => lay_take (O.k_ d hd).1
  · exact (lay_tup fun d hd => lay_below (O.r_ d hd)).mono (by decide)
theorem OkR.lay {a b c : Int} {s t h g r : List PyData} (O : OkR a b c s t h g r) : ∀ d ∈ dat8 a b c s t h g r, Lay 2 d := by
  intro d hd
  simp only [dat8, List.mem_cons, List.mem_nil_iff, or_false] at hd
  rcases hd with rfl | rfl | rfl | rfl | rfl | rfl | rfl | rfl
  · exact lay_int
  · exact lay_int
  · exact lay_int
  · exact (lay_tup fun d hd => lay_nonBelow (O.s_ d hd)).mono (by decide)
  · exact (lay_tup fun d hd => lay_below (O.t_ d hd)).mono (by decide)
  · exact lay_tup fun d hd => lay_states (O.h_ d hd).1
  · exact lay_tup fun d hd => lay_gifts (O.g_ d hd).1
  · exact (lay_tup fun d hd => lay_below (O.r_ d hd)).mono (by decide)
section
variable {K : PySem.W.Frag} {R : Rs} {σ : L2.St} {H : Hp} {n m k : Nat} {ta tb te : TE} {b1 b2 : Bool} {d e : PyData} {C C' : Addr}
theorem ev_andE (h1 : Ev R n m ta σ H (bP R (· = b1))) (h2 : b1 = true → Ev R m m tb σ H (bP R (· = b2))) : Ev R n m (tAndV ta tb) σ H (bP R (· = (b1 && b2))) :=
  (ev_andV (q := (· = b2)) h1 fun e => h2 e.symm).imp fun v H' _ ⟨b, e, h⟩ => ⟨b, e, by
    rcases h with ⟨rfl, z⟩ | ⟨z, z2⟩
    · rw [← z] <;> rfl
    · rw [← z, z2, Bool.true_and]⟩
theorem ev_eqE (ha : Ev R n k ta σ H (dP K R (· = d))) (hb : Ev R k m tb σ H (dP K R (· = e))) (hd : Lay 2 d) (he : Lay 2 e) : Ev R n m (tOp (rEqD K) ta tb) σ H (bP R (· = PyData.eqv d e)) :=
  (ev_eqD ha hb (fun x h => by rw [h]; exact hd.shaped (by decide)) (fun x h => by rw [h]; exact he.shaped (by decide))).imp fun v H' _ ⟨b, e, x, y, e1, e2, e3⟩ => ⟨b, e, by rw [e3, e1, e2]⟩
theorem ev_isiT {t : Value} {P : Rp R} (h : Ev R n m ta σ H P) (ht : ∀ v H', Xt R H H' → P.r v H' → TyX K H' v t) {b : Bool} (hk : PySem.W.kitOne K t (.ref C') = some b) : Ev R n m (tCB (rIsi K) (tCons ta (tCons (tC (.ref C')) tNil))) σ H (bP R (· = b)) := fun H1 x1 k1 Q q =>
  h H1 x1 k1 _ fun v H2 x2 k2 r => ⟨v, .ref C', _, _, b, rfl, .own C', ht v H2 (x1.trans x2) r, hk, q _ H2 x2 k2 ⟨b, rfl, rfl⟩⟩
end
/-! ### Sender.__eq__, Receiver.__eq__ -/
section
variable {P : Program} {w : World} {K : PySem.W.Frag} {mg : Str → Option Value} {base : Heap} {T : List (Addr × Str)} {C f : Addr}
theorem fnR_of {CX : CXT} {k : Nat} {f : Addr} {fd : FuncData} {ps : List Str} {sp : Sp} (F : FnOk P w K mg base CX k f fd ps sp) (hb : Binds K fd ps []) : FnR P w K mg base CX k f sp := fun A outer s H us vs Q E hr e r h => by
  have hl := F.len _ _ _ _ h
  have hk : K.In s.heap := e.mod.kin.keeps fun b o z => (e.bs b o z).1
  refine F.run A outer s H ⟨us, []⟩ us vs Q E hr e ?_ r h
  have := hb s us hk (by rw [List.append_nil, ← hl, r.length])
  rw [List.append_nil] at this
  exact this
/-- the class has the eight properties -/
structure Prp8 (P : Program) (w : World) (K : PySem.W.Frag) (mg : Str → Option Value) (base : Heap) (C : Addr) (x7 f7 : Str) : Prop where
  cl : ClsI K C
  c3 : Cnt3 P w K mg base C
  p4 : Prp P w K mg base C "sends" "_sends"
  p5 : Prp P w K mg base C "ticks" "_ticks"
  p6 : Prp P w K mg base C "hears" "_hears"
  p7 : Prp P w K mg base C x7 f7
  p8 : Prp P w K mg base C "crashes" "_crashes"
/-- the fields are these data -/
def Is8 (f7 : Str) (F : List (Str × PyData)) (ds : List PyData) : Prop := ∃ d1 d2 d3 d4 d5 d6 d7 d8, ds = [d1, d2, d3, d4, d5, d6, d7, d8] ∧ (("_value_count" : Str), d1) ∈ F ∧ (("_forward" : Str), d2) ∈ F ∧ (("_backward" : Str), d3) ∈ F ∧ (("_sends" : Str), d4) ∈ F ∧ (("_ticks" : Str), d5) ∈ F ∧ (("_hears" : Str), d6) ∈ F ∧ (f7, d7) ∈ F ∧ (("_crashes" : Str), d8) ∈ F
theorem is8S {a b c : Int} {s t h k r : List PyData} : Is8 "_takes" (sndF a b c s t h k r) (dat8 a b c s t h k r) := ⟨_, _, _, _, _, _, _, _, rfl, by simp [sndF], by simp [sndF], by simp [sndF], by simp [sndF], by simp [sndF], by simp [sndF], by simp [sndF], by simp [sndF]⟩
theorem is8R {a b c : Int} {s t h g r : List PyData} : Is8 "_gives" (rcvF a b c s t h g r) (dat8 a b c s t h g r) := ⟨_, _, _, _, _, _, _, _, rfl, by simp [rcvF], by simp [rcvF], by simp [rcvF], by simp [rcvF], by simp [rcvF], by simp [rcvF], by simp [rcvF], by simp [rcvF]⟩
def SpE8 (T : List (Addr × Str)) (K : PySem.W.Frag) (C : Addr) (f7 : Str) : Sp := fun vs H Q _ => vs.length = 2 ∧ ∃ (R : Rs) (m : Nat) (x : Addr) (y : V) (F : List (Str × PyData)) (ds : List PyData), R.T = T ∧ vs = [.ref x, y] ∧ Ok R m H ∧ ¬ R.M x ∧ InsD K C H x F ∧ Is8 f7 F ds ∧ (∀ d ∈ ds, Lay 2 d) ∧
  ((∃ (y' : Addr) (F' : List (Str × PyData)) (es : List PyData), y = .ref y' ∧ ¬ R.M y' ∧ InsD K C H y' F' ∧ Is8 f7 F' es ∧ (∀ e ∈ es, Lay 2 e) ∧ ∀ H', Xt R H H' → Ok R m H' → Q (.bl (PyData.eqvAll ds es)) H') ∨
   (∃ t : Value, (∀ H', Xt R H H' → TyX K H' y t) ∧ PySem.W.kitOne K t (.ref C) = some false ∧ ∀ H', Xt R H H' → Ok R m H' → Q (.bl false) H'))
theorem sc_Sender_eq : FnScope ["self", "other"] ["self", "other"] (defScope s_Sender_eq) := ⟨rfl, rfl, rfl, by decide +kernel, rfl, by decide +kernel, by decide +kernel⟩
theorem ok_Sender_eq (D : DefM K "__eq__" "Sender.__eq__" s_Sender_eq f) (B : Bl mg) (hm : mg "Sender" = some (.ref C)) (N : Prp8 P w K mg base C "takes" "_takes") : FnR P w K mg base CX0 3 f (SpE8 T K C "_takes") := by
  obtain ⟨fd, F⟩ := D.ex
  refine fnR_of (F.ok sc_Sender_eq (fun vs H Q E h => h.1) fun cdv A outer s0 H vs Q E hr h => ?_) (F.bindsN fun _ _ _ _ _ _ us hl => match us, hl with | [_, _], _ => rfl)
  obtain ⟨_, R, m, x, y, Fx, ds, rfl, rfl, ok, nx, hI, i8, la, h⟩ := h
  obtain ⟨d1, d2, d3, d4, d5, d6, d7, d8, rfl, g1, g2, g3, g4, g5, g6, g7, g8⟩ := i8
  refine ⟨_, PSs.nox (pss_one (ps_ret (pe_and (pe_callB call_isi (by rfl) B.isinstance (by decide +kernel) (pa_cons (pv 1) (pa_cons (pe_glob (v := .ref C) (by rfl) hm rfl) pa_nil)))
    (pe_and (pe_cmpR (op_eqD hr.units) (pe_prp (pv 0) N.cl.cl N.c3.p1 hr (by decide)) (pe_prp (pv 1) N.cl.cl N.c3.p1 hr (by decide)) (nomark _)) (pe_and (pe_cmpR (op_eqD hr.units) (pe_prp (pv 0) N.cl.cl N.c3.p2 hr (by decide)) (pe_prp (pv 1) N.cl.cl N.c3.p2 hr (by decide)) (nomark _)) (pe_and (pe_cmpR (op_eqD hr.units) (pe_prp (pv 0) N.cl.cl N.c3.p3 hr (by decide)) (pe_prp (pv 1) N.cl.cl N.c3.p3 hr (by decide)) (nomark _)) (pe_and (pe_cmpR (op_eqD hr.units) (pe_prp (pv 0) N.cl.cl N.p4 hr (by decide)) (pe_prp (pv 1) N.cl.cl N.p4 hr (by decide)) (nomark _)) (pe_and (pe_cmpR (op_eqD hr.units) (pe_prp (pv 0) N.cl.cl N.p5 hr (by decide)) (pe_prp (pv 1) N.cl.cl N.p5 hr (by decide)) (nomark _)) (pe_and (pe_cmpR (op_eqD hr.units) (pe_prp (pv 0) N.cl.cl N.p6 hr (by decide)) (pe_prp (pv 1) N.cl.cl N.p6 hr (by decide)) (nomark _)) (pe_and (pe_cmpR (op_eqD hr.units) (pe_prp (pv 0) N.cl.cl N.p7 hr (by decide)) (pe_prp (pv 1) N.cl.cl N.p7 hr (by decide)) (nomark _)) (pe_one (pe_cmpR (op_eqD hr.units) (pe_prp (pv 0) N.cl.cl N.p8 hr (by decide)) (pe_prp (pv 1) N.cl.cl N.p8 hr (by decide)) (nomark _))))))))))))), ?_⟩
  have hx : ∀ {m : Nat}, Ev R m m (tVar 0) (L2.start ["self", "other"] [.ref x, y]) H (oP K R C Fx) := ev_var rfl ⟨x, rfl, nx, hI⟩
  rcases h with ⟨y', Fy, es, rfl, ny, hJ, j8, lb, q⟩ | ⟨t, ht, hk, q⟩
  · obtain ⟨e1, e2, e3, e4, e5, e6, e7, e8, rfl, l1, l2, l3, l4, l5, l6, l7, l8⟩ := j8
    have hy : ∀ {m : Nat}, Ev R m m (tVar 1) (L2.start ["self", "other"] [.ref x, .ref y']) H (oP K R C Fy) := ev_var rfl ⟨y', rfl, ny, hJ⟩
    refine s_ret ok (ev_andE (ev_isiO N.cl hy kit_self) fun _ => (ev_andE (ev_eqE (ev_prp hx g1) (ev_prp hy l1) (la _ (by simp)) (lb _ (by simp))) fun _ => (ev_andE (ev_eqE (ev_prp hx g2) (ev_prp hy l2) (la _ (by simp)) (lb _ (by simp))) fun _ => (ev_andE (ev_eqE (ev_prp hx g3) (ev_prp hy l3) (la _ (by simp)) (lb _ (by simp))) fun _ => (ev_andE (ev_eqE (ev_prp hx g4) (ev_prp hy l4) (la _ (by simp)) (lb _ (by simp))) fun _ => (ev_andE (ev_eqE (ev_prp hx g5) (ev_prp hy l5) (la _ (by simp)) (lb _ (by simp))) fun _ => (ev_andE (ev_eqE (ev_prp hx g6) (ev_prp hy l6) (la _ (by simp)) (lb _ (by simp))) fun _ => (ev_andE (ev_eqE (ev_prp hx g7) (ev_prp hy l7) (la _ (by simp)) (lb _ (by simp))) fun _ => (ev_eqE (ev_prp hx g8) (ev_prp hy l8) (la _ (by simp)) (lb _ (by simp))))))))))) fun v H1 x1 k1 ⟨b, e, e2⟩ => ?_
    subst e e2
    have := q H1 x1 k1
    simp only [PyData.eqvAll, Bool.and_true] at this
    exact this
  · refine s_ret ok (ev_andE (b2 := false) (ev_isiT (ev_var (P := vP R y) rfl rfl) (fun v H' x' e => by rw [show v = y from e]; exact ht H' x') hk) fun z => nomatch z) fun v H1 x1 k1 ⟨b, e, e2⟩ => ?_
    subst e e2
    exact q H1 x1 k1
theorem sc_Receiver_eq : FnScope ["self", "other"] ["self", "other"] (defScope s_Receiver_eq) := ⟨rfl, rfl, rfl, by decide +kernel, rfl, by decide +kernel, by decide +kernel⟩
theorem ok_Receiver_eq (D : DefM K "__eq__" "Receiver.__eq__" s_Receiver_eq f) (B : Bl mg) (hm : mg "Receiver" = some (.ref C)) (N : Prp8 P w K mg base C "gives" "_gives") : FnR P w K mg base CX0 3 f (SpE8 T K C "_gives") := by
  obtain ⟨fd, F⟩ := D.ex
  refine fnR_of (F.ok sc_Receiver_eq (fun vs H Q E h => h.1) fun cdv A outer s0 H vs Q E hr h => ?_) (F.bindsN fun _ _ _ _ _ _ us hl => match us, hl with | [_, _], _ => rfl)
  obtain ⟨_, R, m, x, y, Fx, ds, rfl, rfl, ok, nx, hI, i8, la, h⟩ := h
  obtain ⟨d1, d2, d3, d4, d5, d6, d7, d8, rfl, g1, g2, g3, g4, g5, g6, g7, g8⟩ := i8
  refine ⟨_, PSs.nox (pss_one (ps_ret (pe_and (pe_callB call_isi (by rfl) B.isinstance (by decide +kernel) (pa_cons (pv 1) (pa_cons (pe_glob (v := .ref C) (by rfl) hm rfl) pa_nil)))
    (pe_and (pe_cmpR (op_eqD hr.units) (pe_prp (pv 0) N.cl.cl N.c3.p1 hr (by decide)) (pe_prp (pv 1) N.cl.cl N.c3.p1 hr (by decide)) (nomark _)) (pe_and (pe_cmpR (op_eqD hr.units) (pe_prp (pv 0) N.cl.cl N.c3.p2 hr (by decide)) (pe_prp (pv 1) N.cl.cl N.c3.p2 hr (by decide)) (nomark _)) (pe_and (pe_cmpR (op_eqD hr.units) (pe_prp (pv 0) N.cl.cl N.c3.p3 hr (by decide)) (pe_prp (pv 1) N.cl.cl N.c3.p3 hr (by decide)) (nomark _)) (pe_and (pe_cmpR (op_eqD hr.units) (pe_prp (pv 0) N.cl.cl N.p4 hr (by decide)) (pe_prp (pv 1) N.cl.cl N.p4 hr (by decide)) (nomark _)) (pe_and (pe_cmpR (op_eqD hr.units) (pe_prp (pv 0) N.cl.cl N.p5 hr (by decide)) (pe_prp (pv 1) N.cl.cl N.p5 hr (by decide)) (nomark _)) (pe_and (pe_cmpR (op_eqD hr.units) (pe_prp (pv 0) N.cl.cl N.p6 hr (by decide)) (pe_prp (pv 1) N.cl.cl N.p6 hr (by decide)) (nomark _)) (pe_and (pe_cmpR (op_eqD hr.units) (pe_prp (pv 0) N.cl.cl N.p7 hr (by decide)) (pe_prp (pv 1) N.cl.cl N.p7 hr (by decide)) (nomark _)) (pe_one (pe_cmpR (op_eqD hr.units) (pe_prp (pv 0) N.cl.cl N.p8 hr (by decide)) (pe_prp (pv 1) N.cl.cl N.p8 hr (by decide)) (nomark _))))))))))))), ?_⟩
  have hx : ∀ {m : Nat}, Ev R m m (tVar 0) (L2.start ["self", "other"] [.ref x, y]) H (oP K R C Fx) := ev_var rfl ⟨x, rfl, nx, hI⟩
  rcases h with ⟨y', Fy, es, rfl, ny, hJ, j8, lb, q⟩ | ⟨t, ht, hk, q⟩
  · obtain ⟨e1, e2, e3, e4, e5, e6, e7, e8, rfl, l1, l2, l3, l4, l5, l6, l7, l8⟩ := j8
    have hy : ∀ {m : Nat}, Ev R m m (tVar 1) (L2.start ["self", "other"] [.ref x, .ref y']) H (oP K R C Fy) := ev_var rfl ⟨y', rfl, ny, hJ⟩
    refine s_ret ok (ev_andE (ev_isiO N.cl hy kit_self) fun _ => (ev_andE (ev_eqE (ev_prp hx g1) (ev_prp hy l1) (la _ (by simp)) (lb _ (by simp))) fun _ => (ev_andE (ev_eqE (ev_prp hx g2) (ev_prp hy l2) (la _ (by simp)) (lb _ (by simp))) fun _ => (ev_andE (ev_eqE (ev_prp hx g3) (ev_prp hy l3) (la _ (by simp)) (lb _ (by simp))) fun _ => (ev_andE (ev_eqE (ev_prp hx g4) (ev_prp hy l4) (la _ (by simp)) (lb _ (by simp))) fun _ => (ev_andE (ev_eqE (ev_prp hx g5) (ev_prp hy l5) (la _ (by simp)) (lb _ (by simp))) fun _ => (ev_andE (ev_eqE (ev_prp hx g6) (ev_prp hy l6) (la _ (by simp)) (lb _ (by simp))) fun _ => (ev_andE (ev_eqE (ev_prp hx g7) (ev_prp hy l7) (la _ (by simp)) (lb _ (by simp))) fun _ => (ev_eqE (ev_prp hx g8) (ev_prp hy l8) (la _ (by simp)) (lb _ (by simp))))))))))) fun v H1 x1 k1 ⟨b, e, e2⟩ => ?_
    subst e e2
    have := q H1 x1 k1
    simp only [PyData.eqvAll, Bool.and_true] at this
    exact this
  · refine s_ret ok (ev_andE (b2 := false) (ev_isiT (ev_var (P := vP R y) rfl rfl) (fun v H' x' e => by rw [show v = y from e]; exact ht H' x') hk) fun z => nomatch z) fun v H1 x1 k1 ⟨b, e, e2⟩ => ?_
    subst e e2
    exact q H1 x1 k1

end
end LW

set_option Elab.async false
set_option linter.all false
set_option maxRecDepth 100000
set_option maxHeartbeats 4000000
namespace LW
open PySem PySem.Spec PyProof.Rows L2 LamX NdefX WE WLam WQ
/-- the data of a pair: of its sender, of its receiver -/
structure PDat (sd rd : List (Str × PyData)) (ds rs : List PyData) : Prop where
  s8 : Is8 "_takes" sd ds
  r8 : Is8 "_gives" rd rs
  sl : ∀ d ∈ ds, Lay 2 d
  rl : ∀ d ∈ rs, Lay 2 d
/-- the class Pair -/
structure PairC (P : Program) (w : World) (K : PySem.W.Frag) (mg : Str → Option Value) (base : Heap) (CP : Addr) : Prop where
  ci : ClsI K CP
  mc : mg "Pair" = some (.ref CP)
  p1 : Prp P w K mg base CP "sender" "_sender"
  p2 : Prp P w K mg base CP "receiver" "_receiver"
section
variable {P : Program} {w : World} {K : PySem.W.Frag} {mg : Str → Option Value} {base : Heap} {T : List (Addr × Str)} {CP CS CR C f : Addr} {R : Rs} {σ : L2.St} {H : Hp} {n m k : Nat} {ta tb : TE} {sd rd : List (Str × PyData)}
theorem ev_prpS (h : Ev R n m ta σ H (pP K R CP CS CR sd rd)) : Ev R n m (tProp CP (getSp CP "_sender") [] E0 ta) σ H (oP K R CS sd) := fun H1 x1 k1 Q q =>
  h H1 x1 k1 _ fun v H2 x2 k2 ⟨p, e, hp⟩ => by
    subst e
    obtain ⟨dx, fs, s, r, h1, h2, h3, h4, h5, h6, h7⟩ := hp.ex
    exact ⟨p, dx, fs, rfl, h1, p, dx, fs, _, rfl, h1, h2, q _ H2 x2 k2 ⟨s, rfl, h4, h6⟩⟩
theorem ev_prpR (h : Ev R n m ta σ H (pP K R CP CS CR sd rd)) : Ev R n m (tProp CP (getSp CP "_receiver") [] E0 ta) σ H (oP K R CR rd) := fun H1 x1 k1 Q q =>
  h H1 x1 k1 _ fun v H2 x2 k2 ⟨p, e, hp⟩ => by
    subst e
    obtain ⟨dx, fs, s, r, h1, h2, h3, h4, h5, h6, h7⟩ := hp.ex
    exact ⟨p, dx, fs, rfl, h1, p, dx, fs, _, rfl, h1, h3, q _ H2 x2 k2 ⟨r, rfl, h5, h7⟩⟩
theorem ty_ins (I : ClsI K C) {x dx : Addr} {fs : List (Str × V)} (h : H x = some (.ins C dx fs)) : TyX K H (.ref x) (.ref C) := .base (.ins h I.cl I.ha I.hn I.htk I.hm)
theorem nf_self : PySem.W.notFirst K C (.ref C) = true := by simp [PySem.W.notFirst]
/-- == of two senders, or of two receivers -/
theorem ev_eq8 {f7 : Str} {F F' : List (Str × PyData)} {ds es : List PyData} (I : ClsI K C) (ha : Ev R n k ta σ H (oP K R C F)) (hb : Ev R k m tb σ H (oP K R C F')) (h1 : Is8 f7 F ds) (h2 : Is8 f7 F' es) (l1 : ∀ d ∈ ds, Lay 2 d) (l2 : ∀ e ∈ es, Lay 2 e) :
    Ev R n m (tOp (rOwnQ K C (SpE8 R.T K C f7) E0) ta tb) σ H (bP R (· = PyData.eqvAll ds es)) :=
  ev_op ha hb fun x y H1 _ k ⟨a, e1, na, hA⟩ ⟨b, e2, nb, hB⟩ Q q => by
    subst e1 e2
    obtain ⟨dx, fs, g1, g2⟩ := id hA
    obtain ⟨dy, gs, g3, g4⟩ := id hB
    exact ⟨a, dx, fs, .ref C, rfl, g1, ty_ins I g3, nf_self, rfl, R, _, a, _, F, ds, rfl, rfl, k, na, hA, h1, l1, .inl ⟨b, F', es, rfl, nb, hB, h2, l2, fun H' x' k' => ⟨_, rfl, q _ H' x' k' ⟨_, rfl, rfl⟩⟩⟩⟩
/-- .. of one and a thing of another type -/
theorem ev_eq8F {f7 : Str} {F : List (Str × PyData)} {ds : List PyData} {Pb : Rp R} {t : Value} (ha : Ev R n k ta σ H (oP K R C F)) (hb : Ev R k m tb σ H Pb) (h1 : Is8 f7 F ds) (l1 : ∀ d ∈ ds, Lay 2 d) (ht : ∀ v H', Pb.r v H' → TyX K H' v t) (hk : PySem.W.kitOne K t (.ref C) = some false) (hn : PySem.W.notFirst K C t = true) :
    Ev R n m (tOp (rOwnQ K C (SpE8 R.T K C f7) E0) ta tb) σ H (bP R (· = false)) :=
  ev_op ha hb fun x y H1 _ k ⟨a, e1, na, hA⟩ r Q q => by
    subst e1
    obtain ⟨dx, fs, g1, g2⟩ := id hA
    exact ⟨a, dx, fs, t, rfl, g1, ht y H1 r, hn, rfl, R, _, a, _, F, ds, rfl, rfl, k, na, hA, h1, l1, .inr ⟨t, fun H' x' => ht y H' (Pb.mono _ _ _ x' r), hk, fun H' x' k' => ⟨_, rfl, q _ H' x' k' ⟨_, rfl, rfl⟩⟩⟩⟩
/-! ### Pair.__eq__ -/
theorem sc_Pair_eq : FnScope ["self", "other"] ["self", "other"] (defScope s_Pair_eq) := ⟨rfl, rfl, rfl, by decide +kernel, rfl, by decide +kernel, by decide +kernel⟩
def SpEP (T : List (Addr × Str)) (K : PySem.W.Frag) (CP CS CR : Addr) : Sp := fun vs H Q _ => vs.length = 2 ∧ ∃ (R : Rs) (m : Nat) (x : Addr) (y : V) (sd rd : List (Str × PyData)) (ds rs : List PyData), R.T = T ∧ vs = [.ref x, y] ∧ Ok R m H ∧ PairAt K R.M CP CS CR H x sd rd ∧ PDat sd rd ds rs ∧
  ((∃ (y' : Addr) (sd' rd' : List (Str × PyData)) (ds' rs' : List PyData), y = .ref y' ∧ PairAt K R.M CP CS CR H y' sd' rd' ∧ PDat sd' rd' ds' rs' ∧ ∀ H', Xt R H H' → Ok R m H' → Q (.bl (PyData.eqvAll ds ds' && PyData.eqvAll rs rs')) H') ∨
   (∃ t : Value, (∀ H', Xt R H H' → TyX K H' y t) ∧ PySem.W.kitOne K t (.ref CP) = some false ∧ ∀ H', Xt R H H' → Ok R m H' → Q (.bl false) H'))
/-- the own == of a class, at any place of the program -/
structure EqC (P : Program) (w : World) (K : PySem.W.Frag) (mg : Str → Option Value) (base : Heap) (n : Nat) (C f : Addr) (sp : Sp) : Prop where
  eq : PySem.W.findIn K (.ref C) "__eq__" = some (some (.ref f))
  fn : PySem.W.isFn K (.ref f) = true
  run : FnR P w K mg base CX0 n f sp
theorem EqC.own {n : Nat} {C f : Addr} {sp : Sp} {X : Cx} (h : EqC X.prog X.w X.K X.mg X.base n C f sp) {j : Nat} (hj : n ≤ j) : OwnQ X CX0 j C f sp := ⟨h.eq, h.fn, h.run.mono hj⟩
theorem ok_Pair_eq {fS fR : Addr} (D : DefM K "__eq__" "Pair.__eq__" s_Pair_eq f) (B : Bl mg) (N : PairC P w K mg base CP) (IS : ClsI K CS) (IR : ClsI K CR) (ES : EqC P w K mg base 3 CS fS (SpE8 T K CS "_takes")) (ER : EqC P w K mg base 3 CR fR (SpE8 T K CR "_gives")) : FnR P w K mg base CX0 4 f (SpEP T K CP CS CR) := by
  obtain ⟨fd, F⟩ := D.ex
  refine fnR_of (F.ok sc_Pair_eq (fun vs H Q E h => h.1) fun cdv A outer s0 H vs Q E hr h => ?_) (F.bindsN fun _ _ _ _ _ _ us hl => match us, hl with | [_, _], _ => rfl)
  obtain ⟨_, R, m, x, y, sd, rd, ds, rs, rfl, rfl, ok, hP, pd, h⟩ := h
  refine ⟨_, PSs.nox (pss_one (ps_ret (pe_and (pe_callB call_isi (by rfl) B.isinstance (by decide +kernel) (pa_cons (pv 1) (pa_cons (pe_glob (v := .ref CP) (by rfl) N.mc rfl) pa_nil)))
    (pe_and (pe_cmpR (op_ownQ (ES.own (Nat.le_refl 3)) hr pass0) (pe_prp (pv 0) N.ci.cl N.p1 hr (by decide)) (pe_prp (pv 1) N.ci.cl N.p1 hr (by decide)) (nomark _))
      (pe_one (pe_cmpR (op_ownQ (ER.own (Nat.le_refl 3)) hr pass0) (pe_prp (pv 0) N.ci.cl N.p2 hr (by decide)) (pe_prp (pv 1) N.ci.cl N.p2 hr (by decide)) (nomark _))))))), ?_⟩
  have hx : ∀ {m : Nat}, Ev R m m (tVar 0) (L2.start ["self", "other"] [.ref x, y]) H (pP K R CP CS CR sd rd) := ev_var rfl ⟨x, rfl, hP⟩
  rcases h with ⟨y', sd', rd', ds', rs', rfl, hP', pd', q⟩ | ⟨t, ht, hk, q⟩
  · have hy : ∀ {m : Nat}, Ev R m m (tVar 1) (L2.start ["self", "other"] [.ref x, .ref y']) H (pP K R CP CS CR sd' rd') := ev_var rfl ⟨y', rfl, hP'⟩
    refine s_ret ok (ev_andE (ev_isiT (t := .ref CP) hy (fun v H' x' ⟨p, e, hp⟩ => by
      subst e
      obtain ⟨dx, fs, _, _, h1, _⟩ := hp.ex
      exact ty_ins N.ci h1) kit_self) fun _ => ev_andE (ev_eq8 IS (ev_prpS hx) (ev_prpS hy) pd.s8 pd'.s8 pd.sl pd'.sl) fun _ => ev_eq8 IR (ev_prpR hx) (ev_prpR hy) pd.r8 pd'.r8 pd.rl pd'.rl) fun v H1 x1 k1 ⟨b, e, e2⟩ => ?_
    subst e e2
    exact q H1 x1 k1
  · refine s_ret ok (ev_andE (b2 := false) (ev_isiT (ev_var (P := vP R y) rfl rfl) (fun v H' x' e => by rw [show v = y from e]; exact ht H' x') hk) fun z => nomatch z) fun v H1 x1 k1 ⟨b, e, e2⟩ => ?_
    subst e e2
    exact q H1 x1 k1
/-- == of two pairs -/
theorem ev_eqP {sd' rd' : List (Str × PyData)} {ds rs ds' rs' : List PyData} (I : ClsI K CP) (ha : Ev R n k ta σ H (pP K R CP CS CR sd rd)) (hb : Ev R k m tb σ H (pP K R CP CS CR sd' rd')) (h1 : PDat sd rd ds rs) (h2 : PDat sd' rd' ds' rs') :
    Ev R n m (tOp (rOwnQ K CP (SpEP R.T K CP CS CR) E0) ta tb) σ H (bP R (· = (PyData.eqvAll ds ds' && PyData.eqvAll rs rs'))) :=
  ev_op ha hb fun x y H1 _ k ⟨a, e1, hA⟩ ⟨b, e2, hB⟩ Q q => by
    subst e1 e2
    obtain ⟨dx, fs, _, _, g1, _⟩ := id hA.ex
    obtain ⟨dy, gs, _, _, g3, _⟩ := id hB.ex
    exact ⟨a, dx, fs, .ref CP, rfl, g1, ty_ins I g3, nf_self, rfl, R, _, a, _, sd, rd, ds, rs, rfl, rfl, k, hA, h1, .inl ⟨b, sd', rd', ds', rs', rfl, hB, h2, fun H' x' k' => ⟨_, rfl, q _ H' x' k' ⟨_, rfl, rfl⟩⟩⟩⟩
theorem ev_eqPF {ds rs : List PyData} {Pb : Rp R} {t : Value} (ha : Ev R n k ta σ H (pP K R CP CS CR sd rd)) (hb : Ev R k m tb σ H Pb) (h1 : PDat sd rd ds rs) (ht : ∀ v H', Pb.r v H' → TyX K H' v t) (hk : PySem.W.kitOne K t (.ref CP) = some false) (hn : PySem.W.notFirst K CP t = true) :
    Ev R n m (tOp (rOwnQ K CP (SpEP R.T K CP CS CR) E0) ta tb) σ H (bP R (· = false)) :=
  ev_op ha hb fun x y H1 _ k ⟨a, e1, hA⟩ r Q q => by
    subst e1
    obtain ⟨dx, fs, _, _, g1, _⟩ := id hA.ex
    exact ⟨a, dx, fs, t, rfl, g1, ht y H1 r, hn, rfl, R, _, a, _, sd, rd, ds, rs, rfl, rfl, k, hA, h1, .inr ⟨t, fun H' x' => ht y H' (Pb.mono _ _ _ x' r), hk, fun H' x' k' => ⟨_, rfl, q _ H' x' k' ⟨_, rfl, rfl⟩⟩⟩⟩
end
end LW

set_option Elab.async false
set_option linter.all false
set_option maxRecDepth 100000
set_option maxHeartbeats 4000000
namespace LW
open PySem PySem.Spec PyProof.Rows L2 LamX NdefX WE WLam WQ
section
variable {P : Program} {w : World} {K : PySem.W.Frag} {mg : Str → Option Value} {base : Heap} {T : List (Addr × Str)} {CP CS CR : Addr}
/-! ### check_pair -/
theorem sc_check_pair : FnScope ["pair"] ["pair"] (defScope s_check_pair) := ⟨rfl, rfl, rfl, by decide +kernel, rfl, by decide +kernel, by decide +kernel⟩
def SpCkP (T : List (Addr × Str)) (K : PySem.W.Frag) (CP CS CR : Addr) : Sp := fun vs H Q _ => vs.length = 1 ∧ ∃ (R : Rs) (m : Nat) (p : Addr) (sd rd : List (Str × PyData)), R.T = T ∧ vs = [.ref p] ∧ Ok R m H ∧ PairAt K R.M CP CS CR H p sd rd ∧ ∀ H', Xt R H H' → Ok R m H' → Q .non H'
theorem ok_check_pair (D : Def1 K mg "check_pair" s_check_pair) (B : Bl mg) (N : PairC P w K mg base CP) : Cal P w K mg base CX0 1 "check_pair" ["pair"] (SpCkP T K CP CS CR) := by
  refine cal_of D sc_check_pair (fun _ _ _ _ _ _ us hl => match us, hl with | [_], _ => rfl) (fun vs H Q E h => h.1) (fun f cdv A outer s H vs Q E hr h => ?_)
  obtain ⟨_, R, m, p, sd, rd, rfl, rfl, ok, hP, q⟩ := h
  refine ⟨_, pss_one (ps_if (pt_not (pt_val (pe_callB call_isi (by rfl) B.isinstance (by decide +kernel) (pa_cons (pv 0) (pa_cons (pe_glob (v := .ref CP) (by rfl) N.mc rfl) pa_nil))))) (pss_one ps_never) pss_nil), ?_⟩
  refine s_if ok (evt_not (evt_B (ev_isiT (t := .ref CP) (ev_var (P := pP K R CP CS CR sd rd) rfl ⟨p, rfl, hP⟩) (fun v H' x' ⟨p, e, hp⟩ => by
    subst e
    obtain ⟨dx, fs, _, _, h1, _⟩ := hp.ex
    exact ty_ins N.ci h1) kit_self))) (fun hp => by cases hp) fun _ H1 x1 k1 => q H1 x1 k1
theorem ev_ckP {R : Rs} {σ : L2.St} {H : Hp} {n m : Nat} {te : TE} {sd rd : List (Str × PyData)} (h : Ev R n m te σ H (pP K R CP CS CR sd rd)) : Ev R n m (tCall (SpCkP R.T K CP CS CR) [] E0 (tCons te tNil)) σ H (vP R .non) :=
  ev_call (eva_cons h eva_nil) fun vs H1 x1 k1 r Q q => by
    obtain ⟨v, r, rfl, ⟨p, rfl, hp⟩, e⟩ := r
    cases e
    exact ⟨rfl, R, m, p, sd, rd, rfl, rfl, k1, hp, fun H' x k => q _ H' x k rfl⟩
/-- a def's contract together with its text -/
structure CalF (P : Program) (w : World) (K : PySem.W.Frag) (mg : Str → Option Value) (base : Heap) (CX : CXT) (k : Nat) (x : Str) (st : Stmt) (ps : List Str) (sp : Sp) : Prop where
  ex : ∃ (f : Addr) (fd : FuncData), FunD K x x (defArgs st) (defBody st) (defScope st) [] [] f fd ∧ mg x = some (.ref f) ∧ FnOk P w K mg base CX k f fd ps sp
theorem CalF.cal {CX : CXT} {k : Nat} {x : Str} {st : Stmt} {ps : List Str} {sp : Sp} (c : CalF P w K mg base CX k x st ps sp)
    (hb : ∀ (kV doc pm : Value) (an : Option Addr) (cdv ct : Value) (us : List Value), us.length = ps.length → bindArgs (PySem.W.fnOf x x (defArgs st) (defBody st) (defScope st) .none kV doc pm an cdv ct) ⟨us, []⟩ = pure (ps.zip us)) : Cal P w K mg base CX k x ps sp := by
  obtain ⟨f, fd, F, g, h⟩ := c.ex
  exact ⟨f, fd, g, F.kp, h, F.bindsN hb⟩
theorem calF_of {x : Str} {st : Stmt} {N ps : List Str} {k : Nat} {sp : Sp} (D : Def1 K mg x st) (S : FnScope N ps (defScope st)) (len : ∀ vs H Q E, sp vs H Q E → vs.length = ps.length)
    (hbody : ∀ (f : Addr) (cdv : Value) (A : Around) (outer : List Env) (s : Shared) (H : Hp) (vs : List V) (Q : VK) (E : XK), Room k (A.deeper (envOfC x (defScope st) s.heap.objs.size f cdv)) → sp vs H Q E →
      ∃ t, PSs (cxOf CX0 P w K mg base N x (defScope st) f cdv A outer s H E).nox (defBody st) t ∧ t { nx := fun _ H' => Q .non H', rt := Q } (L2.start N vs) H) : CalF P w K mg base CX0 (k + 1) x st ps sp := by
  obtain ⟨f, fd, F, g⟩ := D.ex
  refine ⟨f, fd, F, g, ?_⟩
  refine F.ok S len fun cdv A outer s H vs Q E hr hsp => ?_
  obtain ⟨t, h, q⟩ := hbody f cdv A outer s H vs Q E hr hsp
  exact ⟨t, h.nox, q⟩
end
end LW


set_option Elab.async false
set_option linter.all false
set_option maxRecDepth 100000
set_option maxHeartbeats 4000000
namespace LW
open PySem PySem.Spec PyProof.Rows L2 LamX NdefX WE WLam WQ
section
variable {K : PySem.W.Frag} {R : Rs} {σ : L2.St} {H H0 : Hp} {n m k : Nat} {te ta tb : TE} {Da : Addr} {ds es : List PyData} {d : PyData} {Dn : Ends} {tz : TS} {p : PyData → Prop}
theorem ev_catAK (ha : Ev R n k ta σ H (dP K R (· = .tuple ds))) (hb : Ev R k m tb σ H (dP K R (· = .tuple es))) (l1 : ds.length ≤ 100000) (l2 : es.length ≤ 100000) {fs : List PyData} (hf : ds ++ es = fs) : Ev R n m (tOp (rCatA K) ta tb) σ H (dP K R (· = .tuple fs)) :=
  ev_op ha hb fun x y H1 _ k ⟨d, hd, e1⟩ ⟨e, he, e2⟩ Q z => by
    subst e1 e2 hf
    obtain ⟨a, xs, rfl, h1, h2⟩ := dq_tup hd
    obtain ⟨b, ys, rfl, h3, h4⟩ := dq_tup he
    have e1 := h2.length
    have e2 := h4.length
    refine ⟨a, b, xs, ys, rfl, rfl, h1, h3, Nat.le_trans (by omega) (show 200000 ≤ sizeLine by decide), fun e => ?_, fun _ e => ?_, fun _ _ p hp => ?_⟩
    · rw [e] at e1
      have := List.eq_nil_of_length_eq_zero e1.symm
      subst this
      exact z _ H1 (.refl _) k ⟨_, he, rfl⟩
    · rw [e] at e2
      have := List.eq_nil_of_length_eq_zero e2.symm
      subst this
      exact z _ H1 (.refl _) k ⟨_, hd, by rw [List.append_nil]⟩
    · have xn : Xt R H1 (upd H1 p (.tup (xs ++ ys))) := .new hp
      exact z _ _ xn (k.new hp) ⟨_, .tup (.inl (.inl upd_same)) ((h2.append h4).mono xn), rfl⟩
theorem ev_sltToE {z : Int} {th : TE} (h : Ev R n k te σ H (dP K R (· = .tuple ds))) (hz : Ev R k m th σ H (iP R (· = z))) (he : WE.cutD ds none (some z) = es) : Ev R n m (tSl (rSlA K) te tNoPart (tPart th)) σ H (dP K R (· = .tuple es)) := fun H1 x1 k1 Q q =>
  h H1 x1 k1 _ fun v H2 x2 k2 ⟨d, hd, e⟩ => hz H2 (x1.trans x2) k2 _ fun u H3 x3 k3 ⟨z', ez, e2⟩ => by
    subst e ez e2
    obtain ⟨a, xs, rfl, h1, h2⟩ := dq_tup (hd.mono x3)
    refine ⟨z', rfl, a, xs, rfl, h1, fun w => ?_, fun _ p hp => ?_⟩
    · rw [h2.length] at w
      rw [cut_whole w.1 w.2] at he
      subst he
      exact q _ H3 (x2.trans x3) k3 ⟨_, hd.mono x3, rfl⟩
    · have xn : Xt R H3 (upd H3 p (.tup (cutV xs none (some z')))) := .new hp
      refine q _ _ ((x2.trans x3).trans xn) (k3.new hp) ⟨_, .tup (.inl (.inl upd_same)) ((cut_data h2).mono xn), ?_⟩
      rw [he]
theorem ev_sltFromE {z : Int} {tl : TE} (h : Ev R n k te σ H (dP K R (· = .tuple ds))) (hz : Ev R k m tl σ H (iP R (· = z))) (he : WE.cutD ds (some z) none = es) : Ev R n m (tSl (rSlA K) te (tPart tl) tNoPart) σ H (dP K R (· = .tuple es)) := fun H1 x1 k1 Q q =>
  h H1 x1 k1 _ fun v H2 x2 k2 ⟨d, hd, e⟩ => hz H2 (x1.trans x2) k2 _ fun u H3 x3 k3 ⟨z', ez, e2⟩ => by
    subst e ez e2
    obtain ⟨a, xs, rfl, h1, h2⟩ := dq_tup (hd.mono x3)
    refine ⟨z', rfl, a, xs, rfl, h1, fun w => ?_, fun _ p hp => ?_⟩
    · rw [h2.length] at w
      rw [cut_whole w.1 w.2] at he
      subst he
      exact q _ H3 (x2.trans x3) k3 ⟨_, hd.mono x3, rfl⟩
    · have xn : Xt R H3 (upd H3 p (.tup (cutV xs (some z') none))) := .new hp
      refine q _ _ ((x2.trans x3).trans xn) (k3.new hp) ⟨_, .tup (.inl (.inl upd_same)) ((cut_data h2).mono xn), ?_⟩
      rw [he]
/-- xs = list(t), t a tuple without lists -/
theorem q_accOf {i : Nat} (kk : Ok R n H) (h : Ev R n m te σ H (dP K R (· = .tuple ds))) (hi : immAll ds = true) (q : ∀ D H1 H', Xt R H H1 → Ok R m H' → AccAt K R H1 D ds H' → tz Dn (σ.set i (some (.ref D))) H') :
    tSeq (tAsg (tCB (fun xs H Q => ∃ p ys, xs = [.ref p] ∧ (SqL K H p ys ∨ SqT K H p ys) ∧ ∀ l, H l = none → Q (.ref l) (upd H l (.lst ys))) (tCons te tNil)) (gName i)) tz Dn σ H :=
  h H (.refl _) kk _ fun v H2 x2 k2 ⟨d, hd, e⟩ => by
    subst e
    obtain ⟨a, xs, rfl, h1, h2⟩ := dq_tup hd
    refine ⟨a, xs, rfl, .inr h1, fun l hl => ?_⟩
    have xn : Xt R H2 (upd H2 l (.lst xs)) := .new hl
    exact q l H2 _ x2 (k2.new hl) ⟨hl, xn, k2.fresh hl, hi, xs, upd_same, h2.mono xn⟩
theorem dqa_set {M : Addr → Prop} {H : Hp} : ∀ {xs : List V} {ds : List PyData} {j : Nat} {v : V} {d : PyData}, DqAll K M H xs ds → Dq K M H v d → DqAll K M H (xs.set j v) (ds.set j d)
  | _, _, _, _, _, .nil, _ => .nil
  | _, _, 0, _, _, .cons _ b, h => .cons h b
  | _, _, j + 1, _, _, .cons a b, h => .cons a (dqa_set b h)
theorem imm_set {ds : List PyData} {j : Nat} {d : PyData} (h : immAll ds = true) (hd : imm d = true) : immAll (ds.set j d) = true := immAll_mem fun e he => by
  rcases List.mem_or_eq_of_mem_set he with z | z
  · exact immAll_get h e z
  · rw [z]
    exact hd
/-- xs[i] = e -/
theorem s_put {i : Nat} {z : Int} (kk : Ok R n H) (A : AccAt K R H0 Da ds H) (hi : σ[i]? = some (some (.ref Da))) (h : Ev R n m te σ H (dP K R p)) (hp : ∀ d, p d → imm d = true) {j : Nat} (hj : σ[j]? = some (some (.int z))) (z0 : 0 ≤ z) (z1 : z < ds.length) (q : ∀ d H', p d → Ok R m H' → AccAt K R H0 Da (ds.set z.toNat d) H' → (∀ {v e}, Dq K R.M H v e → imm e = true → Dq K R.M H' v e) → Dn.nx σ H') :
    tAsg te (gSub (tVar i) (tVar j) rSetL) Dn σ H := by
  obtain ⟨acc, h1, h2⟩ := A.ex
  refine h H (.refl _) kk _ fun v H2 x2 k2 ⟨d, hd, hpd⟩ => ?_
  have h3 : H2 Da = some (.lst acc) := x2.keep Da _ h1 A.nm (fun _ z => nomatch z)
  have t : Tx H2 (upd H2 Da (.lst (acc.set z.toNat v))) := .lst h3
  have hl := h2.length
  refine ⟨_, hi, _, hj, Da, acc, z, z.toNat, rfl, rfl, h3, ?_, ?_⟩
  · unfold ixN
    rw [if_pos z0, if_pos (by rw [hl]; exact z1)]
  · exact q d _ hpd (ok_lst k2 h3 A.nm) ⟨A.new, (A.xt.trans x2).own A.new, A.nm, imm_set A.im (hp d hpd), _, upd_same, dqa_set (h2.imm (x2.tx.trans t) A.im) (hd.imm t (hp d hpd))⟩ fun hv he => hv.imm (x2.tx.trans t) he
theorem q_put {i : Nat} {z : Int} (kk : Ok R n H) (A : AccAt K R H0 Da ds H) (hi : σ[i]? = some (some (.ref Da))) (h : Ev R n m te σ H (dP K R p)) (hp : ∀ d, p d → imm d = true) {j : Nat} (hj : σ[j]? = some (some (.int z))) (z0 : 0 ≤ z) (z1 : z < ds.length) (q : ∀ d H', p d → Ok R m H' → AccAt K R H0 Da (ds.set z.toNat d) H' → (∀ {v e}, Dq K R.M H v e → imm e = true → Dq K R.M H' v e) → tz Dn σ H') :
    tSeq (tAsg te (gSub (tVar i) (tVar j) rSetL)) tz Dn σ H := s_put (Dn := { Dn with nx := tz Dn }) kk A hi h hp hj z0 z1 q
theorem evt_andC {t u : TT} {p q : Bool → Prop} (h1 : EvT R n k t σ H p) (h2 : p true → EvT R k m u σ H q) (hm : m ≤ k) : EvT R n m (tAnd t u) σ H (fun b => (b = false ∧ p false) ∨ (p true ∧ q b)) := fun H1 x kk Q z =>
  h1 H1 x kk _ fun b H2 x2 k2 r => by
    cases b with
    | true => exact iteT (h2 r H2 (x.trans x2) k2 Q fun b H3 x3 k3 r3 => z b H3 (x2.trans x3) k3 (.inr ⟨r, r3⟩))
    | false => exact iteF (z false H2 x2 (k2.mono hm) (.inl ⟨rfl, r⟩))
/-- [x, y][i], i below 2 -/
theorem ev_pick {p : PyData → Prop} {t1 t2 : TE} {l : Nat} (h1 : Ev R n k t1 σ H (dP K R p)) (h2 : Ev R k l t2 σ H (dP K R p)) (hb : Ev R l m tb σ H (iP R fun i => 0 ≤ i ∧ i < 2)) : Ev R n m (tOp (rIx K) (tLst (tCons t1 (tCons t2 tNil))) tb) σ H (dP K R p) :=
  (ev_ix (ev_dlst (ps := [p, p]) (eva_d h1 (eva_d h2 eva_nil)) (by show 2 ≤ 1000; decide)) hb fun d i ⟨ds, e, _, _, e1, p1, _, _, e2, p2, e3⟩ ⟨i0, i1⟩ => by
    subst e e1 e2 e3
    have hi : i = 0 ∨ i = 1 := by omega
    rcases hi with rfl | rfl
    · exact ⟨_, 0, _, .inr rfl, rfl, rfl⟩
    · exact ⟨_, 1, _, .inr rfl, rfl, rfl⟩).imp fun v H' _ ⟨e, he, d, ds, j, ⟨ds', e1, _, _, e2, p1, _, _, e3, p2, e4⟩, _, e5, e6⟩ => ⟨e, he, by
    subst e1 e2 e3 e4
    rcases e5 with e5 | e5
    · cases e5
    · cases e5
      match j, e6 with
      | 0, e6 => exact (Option.some.inj e6) ▸ p1
      | 1, e6 => exact (Option.some.inj e6) ▸ p2
      | j + 2, e6 => simp at e6⟩
end
end LW

set_option Elab.async false
set_option linter.all false
set_option maxRecDepth 100000
set_option maxHeartbeats 8000000
namespace LW
open PySem PySem.Spec PyProof.Rows L2 LamX NdefX WE WLam WQ
theorem mem_setP {f : PyData → Prop} {l : List PyData} {j : Nat} {d : PyData} (h : ∀ x ∈ l, f x) (hd : f d) : ∀ x ∈ l.set j d, f x := fun x hx => by
  rcases List.mem_or_eq_of_mem_set hx with z | z
  · exact h x z
  · rw [z]
    exact hd
section
variable {a b c : Int} {s t h k g r : List PyData} {j : Nat} {d : PyData}
theorem OkS.set0 (O : OkS a b c s t h k r) (hd : nonBelow b d = true) : OkS a b c (s.set j d) t h k r := by
  have e : (s.set j d).length = s.length := List.length_set
  exact ⟨O.a1, O.b1, O.c1, fun z => O.ne (by rw [z] at e; exact List.eq_nil_of_length_eq_zero e.symm), by rw [e]; exact O.tl, by rw [e]; exact O.hl, by rw [e]; exact O.kl, by rw [e]; exact O.rl, mem_setP O.s_ hd, by rw [e]; exact O.t_, by rw [e]; exact O.h_, O.k0, by rw [e]; exact O.k_, by rw [e]; exact O.r_⟩
theorem OkS.set1 (O : OkS a b c s t h k r) (hd : below s.length d = true) : OkS a b c s (t.set j d) h k r := { O with tl := by rw [List.length_set]; exact O.tl, t_ := mem_setP O.t_ hd }
theorem OkS.set2 (O : OkS a b c s t h k r) (hd : isStates c s.length d = true ∧ slim d) : OkS a b c s t (h.set j d) k r := { O with hl := by rw [List.length_set]; exact O.hl, h_ := mem_setP O.h_ hd }
theorem OkS.set3 (O : OkS a b c s t h k r) (hd : isTake a s.length d = true ∧ slim d) (h0 : j = 0 → isNonD d = false) : OkS a b c s t h (k.set j d) r := { O with
  kl := by rw [List.length_set]; exact O.kl
  k_ := mem_setP O.k_ hd
  k0 := by
    obtain ⟨k0, ks, e, hk⟩ := O.k0
    subst e
    cases j with
    | zero => exact ⟨d, ks, rfl, h0 rfl⟩
    | succ j => exact ⟨k0, ks.set j d, rfl, hk⟩ }
theorem OkS.set4 (O : OkS a b c s t h k r) (hd : below s.length d = true) : OkS a b c s t h k (r.set j d) := { O with rl := by rw [List.length_set]; exact O.rl, r_ := mem_setP O.r_ hd }
theorem OkR.set0 (O : OkR a b c s t h g r) (hd : nonBelow c d = true) : OkR a b c (s.set j d) t h g r := by
  have e : (s.set j d).length = s.length := List.length_set
  exact ⟨O.a1, O.b1, O.c1, fun z => O.ne (by rw [z] at e; exact List.eq_nil_of_length_eq_zero e.symm), by rw [e]; exact O.tl, by rw [e]; exact O.hl, by rw [e]; exact O.gl, by rw [e]; exact O.rl, mem_setP O.s_ hd, by rw [e]; exact O.t_, by rw [e]; exact O.h_, O.g_, by rw [e]; exact O.r_⟩
theorem OkR.set1 (O : OkR a b c s t h g r) (hd : below s.length d = true) : OkR a b c s (t.set j d) h g r := { O with tl := by rw [List.length_set]; exact O.tl, t_ := mem_setP O.t_ hd }
theorem OkR.set2 (O : OkR a b c s t h g r) (hd : isStates b s.length d = true ∧ slim d) : OkR a b c s t (h.set j d) g r := { O with hl := by rw [List.length_set]; exact O.hl, h_ := mem_setP O.h_ hd }
theorem OkR.set3 (O : OkR a b c s t h g r) (hd : isGifts b a d = true ∧ slim d) : OkR a b c s t h (g.set j d) r := { O with gl := by rw [List.length_set]; exact O.gl, g_ := mem_setP O.g_ hd }
theorem OkR.set4 (O : OkR a b c s t h g r) (hd : below s.length d = true) : OkR a b c s t h g (r.set j d) := { O with rl := by rw [List.length_set]; exact O.rl, r_ := mem_setP O.r_ hd }
end
section
variable {K : PySem.W.Frag} {R : Rs} {σ : L2.St} {H : Hp} {n m : Nat} {te : TE} {x : Int} {i : Nat}
theorem evt_is {z : Int} (h : σ[i]? = some (some (.int x))) : EvT R m m (tTest (tOp rEq (tVar i) (tC (.int z)))) σ H (fun b => b = decide (x = z)) := (evt_test (ev_eqI (ev_ivar h) ev_int)).imp fun b ⟨i, j, e1, e2, e3⟩ => by rw [e3, e1, e2]
theorem evt_in2 {y z : Int} {bb : Bool} (h : σ[i]? = some (some (.int x))) (hb : inV (.int x) [.int y, .int z] = bb) : EvT R m m (tTest (tOp (rIn K false) (tVar i) (tTup (tCons (tC (.int y)) (tCons (tC (.int z)) tNil))))) σ H (fun b => b = bb) := fun H1 x1 k1 Q q =>
  ⟨_, h, (by show 2 ≤ sizeLine; decide), fun p hp => ⟨p, [.int y, .int z], rfl, .inr (.inl (.inl upd_same)), rfl, rfl, _, rfl, q _ _ (.new hp) (k1.new hp) hb⟩⟩
/-- len(t), t a tuple of data -/
theorem ev_lenK {ds : List PyData} (h : Ev R n m te σ H (dP K R (· = .tuple ds))) : Ev R n m (tCB (fun vs H Q => ∃ (a : Addr) (xs : List V), vs = [V.ref a] ∧ (SqL K H a xs ∨ SqT K H a xs) ∧ Q (.int (xs.length : Int)) H) (tCons te tNil)) σ H (iP R (· = (ds.length : Int))) :=
  (ev_len h fun d e => ⟨ds, .inl e⟩).imp fun v H' _ ⟨z, e, d, es, e1, e2, e3⟩ => ⟨z, e, by
    subst e1
    rcases e2 with e2 | e2
    · cases e2
      exact e3
    · cases e2⟩
end
section
variable {K : PySem.W.Frag} {R : Rs} {σ : L2.St} {H : Hp} {n m k : Nat} {ta tb : TE} {ds : List PyData} {d : PyData} {z : Int}
theorem ev_atE (ha : Ev R n k ta σ H (dP K R fun x => x = .tuple ds ∨ x = .list ds)) (hb : Ev R k m tb σ H (iP R (· = z))) (z0 : 0 ≤ z) (hj : ds[z.toNat]? = some d) : Ev R n m (tOp (rIx K) ta tb) σ H (dP K R (· = d)) := by
  have hz : z = (z.toNat : Int) := by omega
  refine (ev_ix ha hb fun d' i' e1 e2 => ⟨ds, z.toNat, d, e1, by rw [e2]; exact hz, hj⟩).imp fun v H' _ ⟨e, he, d', ds', j', e1, e2, e3, e4⟩ => ⟨e, he, ?_⟩
  have e2 : (j' : Int) = z := e2
  have e2 : j' = z.toNat := by omega
  subst e2
  have e5 : ds' = ds := by
    rcases e1 with e1 | e1 <;> rcases e3 with e3 | e3 <;> rw [e1] at e3 <;> cases e3 <;> rfl
  rw [e5, hj] at e4
  exact (Option.some.inj e4).symm
end
section
variable {K : PySem.W.Frag} {R : Rs} {σ : L2.St} {H H0 : Hp} {n m : Nat} {te : TE} {ds its : List PyData} {z : Int} {P : Rp R} {D : Ends} {tz : TS} {g : TG} {v2 : V} {Da : Addr}
theorem q_asgT (k : Ok R n H) (h : Ev R n m te σ H P) (q : ∀ v H1, Xt R H H1 → Ok R m H1 → P.r v H1 → g v σ H1 fun σ2 H2 => tz D σ2 H2) : tSeq (tAsg te g) tz D σ H := h H (.refl _) k _ q
theorem cut_to (h0 : 0 ≤ z) (h1 : z ≤ ds.length) : WE.cutD ds none (some z) = ds.take z.toNat := by
  unfold WE.cutD HT.sIx
  simp only
  rw [if_neg (by omega), List.drop_zero, Nat.sub_zero, Nat.min_eq_left (by omega)]
theorem cut_from (h0 : 0 ≤ z) (h1 : z ≤ ds.length) : WE.cutD ds (some z) none = ds.drop z.toNat := by
  unfold WE.cutD HT.sIx
  simp only
  rw [if_neg (by omega), Nat.min_eq_left (by omega)]
  exact List.take_of_length_le (by rw [List.length_drop]; exact Nat.le_refl _)
/-- t[:i] + (tuple(xs),) + t[i + 1:] -/
theorem ev_splice (h2 : σ[2]? = some (some v2)) (hv : Dq K R.M H v2 (.tuple ds)) (h6 : σ[6]? = some (some (.int z))) (h7 : σ[7]? = some (some (.ref Da))) (A : AccAt K R H0 Da its H) (z0 : 0 ≤ z) (z1 : z < ds.length) (hl : ds.length ≤ 1000) :
    Ev R m m (tOp (rCatA K) (tOp (rCatA K) (tSl (rSlA K) (tVar 2) tNoPart (tPart (tVar 6))) (tTup (tCons (tCB (fun xs H Q => ∃ p ys, xs = [.ref p] ∧ ((SqL K H p ys ∧ ∀ l, H l = none → Q (.ref l) (upd H l (.tup ys))) ∨ (SqT K H p ys ∧ Q (.ref p) H))) (tCons (tVar 7) tNil)) tNil))) (tSl (rSlA K) (tVar 2) (tPart (tOp (rI0 fun i j => .int (i + j)) (tVar 6) (tC (.int 1)))) tNoPart)) σ H (dP K R (· = .tuple (ds.set z.toNat (.tuple its)))) := by
  have e7 : Ev R m m (tTup (tCons (tCB (fun xs H Q => ∃ p ys, xs = [.ref p] ∧ ((SqL K H p ys ∧ ∀ l, H l = none → Q (.ref l) (upd H l (.tup ys))) ∨ (SqT K H p ys ∧ Q (.ref p) H))) (tCons (tVar 7) tNil)) tNil)) σ H (dP K R (· = .tuple [.tuple its])) := ev_tupK [.tuple its] (eva_d ((ev_tupleOf (ev_dvar h7 A.dq) fun d e => ⟨its, .inr e⟩).imp fun v H' _ ⟨d, hd, ds, e, e2⟩ => ⟨d, hd, by
    rcases e with e | e
    · cases e
    · cases e
      exact e2⟩) eva_nil) (by show 1 ≤ 1000; decide)
  refine ev_catAK (ev_catAK (ev_sltToE (ev_dvar h2 hv) (ev_ivar h6) (cut_to z0 (by omega))) e7 (by rw [List.length_take]; omega) (by show 1 ≤ 100000; decide) rfl) (ev_sltFromE (ev_dvar h2 hv) (ev_addK (ev_ivar h6) ev_int) (cut_from (by omega) (by omega))) (by rw [List.length_append, List.length_take]; show _ + 1 ≤ _; omega) (by rw [List.length_drop]; omega) ?_
  have e : (z + 1).toNat = z.toNat + 1 := by omega
  rw [e, List.set_eq_take_append_cons_drop, if_pos (by omega), List.append_assoc]
  rfl
end
end LW


set_option Elab.async false
set_option linter.all false
set_option maxRecDepth 100000
set_option maxHeartbeats 4000000
namespace LW
open PySem PySem.Spec PyProof.Rows L2 LamX NdefX WE WLam WQ
section
variable {K : PySem.W.Frag} {R : Rs} {σ : L2.St} {H H0 H' : Hp} {n m k : Nat} {te ta : TE}
/-- at D stands a list of lists, none of them there at H0 -/
structure Lists (K : PySem.W.Frag) (R : Rs) (H0 : Hp) (D : Addr) (ls : List Addr) (tss : List (List PyData)) (H : Hp) : Prop where
  new : H0 D = none
  xt : Xt R H0 H
  nm : ¬ R.M D
  at_ : H D = some (.lst (ls.map V.ref))
  ln : ∀ l ∈ ls, H0 l = none ∧ ¬ R.M l ∧ l ≠ D
  len : ls.length = tss.length
  nd : ls.Nodup
  ex : ∀ (i : Nat) (l : Addr) (ts : List PyData), ls[i]? = some l → tss[i]? = some ts → ∃ xs, H l = some (.lst xs) ∧ DqAll K R.M H xs ts
theorem Lists.dqs (h : Lists K R H0 D ls tss H) : Dq K R.M H (.ref D) (.list (tss.map .list)) := by
  have go : ∀ (ls : List Addr) (tss : List (List PyData)), ls.length = tss.length → (∀ l ∈ ls, ¬ R.M l) → (∀ (i : Nat) (l : Addr) (ts : List PyData), ls[i]? = some l → tss[i]? = some ts → ∃ xs, H l = some (.lst xs) ∧ DqAll K R.M H xs ts) → DqAll K R.M H (ls.map V.ref) (tss.map .list) := by
    intro ls
    induction ls with
    | nil =>
      intro tss hl _ _
      rw [List.eq_nil_of_length_eq_zero hl.symm]
      exact .nil
    | cons l ls ih =>
      intro tss hl hn hx
      cases tss with
      | nil => cases hl
      | cons ts tss =>
        obtain ⟨xs, h1, h2⟩ := hx 0 l ts rfl rfl
        exact .cons (.lst (.inl (.inl h1)) (hn l (List.mem_cons_self ..)) h2) (ih tss (by simpa using hl) (fun l hl => hn l (List.mem_cons_of_mem _ hl)) fun i l ts e1 e2 => hx (i + 1) l ts e1 e2)
  exact .lst (.inl (.inl h.at_)) h.nm (go ls tss h.len (fun l hl => (h.ln l hl).2.1) h.ex)
/-- a new list among the others -/
theorem Lists.add {D l : Addr} {ls : List Addr} {tss : List (List PyData)} {xs : List V} {ts : List PyData} (h : Lists K R H0 D ls tss H) (kk : Ok R m H) (hl : H l = none) (hx : DqAll K R.M H xs ts) (hi : ∀ ts ∈ tss, immAll ts = true) (ht : immAll ts = true) :
    Lists K R H0 D (ls ++ [l]) (tss ++ [ts]) (upd (upd H l (.lst xs)) D (.lst ((ls ++ [l]).map V.ref))) ∧ Ok R m (upd (upd H l (.lst xs)) D (.lst ((ls ++ [l]).map V.ref))) := by
  have xn : Xt R H (upd H l (.lst xs)) := .new hl
  have neD : l ≠ D := fun e => by rw [e, h.at_] at hl; cases hl
  have hD : upd H l (.lst xs) D = some (.lst (ls.map V.ref)) := by rw [upd_ne (fun e => neD e.symm)]; exact h.at_
  have t : Tx (upd H l (.lst xs)) (upd (upd H l (.lst xs)) D (.lst ((ls ++ [l]).map V.ref))) := .lst hD
  have tx : Tx H (upd (upd H l (.lst xs)) D (.lst ((ls ++ [l]).map V.ref))) := xn.tx.trans t
  refine ⟨⟨h.new, (h.xt.trans xn).own h.new, h.nm, upd_same, fun l' hl' => ?_, by rw [List.length_append, List.length_append, h.len]; rfl, ?_, fun i l' ts' e1 e2 => ?_⟩, ok_lst (kk.new hl) hD h.nm⟩
  · rcases List.mem_append.mp hl' with z | z
    · exact h.ln l' z
    · rw [List.mem_singleton.mp z]
      exact ⟨h.xt.mon l hl, kk.fresh hl, neD⟩
  · refine List.nodup_append.mpr ⟨h.nd, by simp, fun a ha b hb e => ?_⟩
    rw [List.mem_singleton.mp hb] at e
    subst e
    obtain ⟨i, hi'⟩ := List.mem_iff_getElem?.mp ha
    have hlt : i < tss.length := by
      rw [← h.len]
      exact (List.getElem?_eq_some_iff.mp hi').1
    obtain ⟨ys, e1, _⟩ := h.ex i _ _ hi' (List.getElem?_eq_getElem hlt)
    rw [e1] at hl
    cases hl
  · by_cases hlt : i < ls.length
    · rw [List.getElem?_append_left hlt] at e1
      rw [List.getElem?_append_left (by rw [← h.len]; exact hlt)] at e2
      obtain ⟨ys, g1, g2⟩ := h.ex i l' ts' e1 e2
      have n1 : l' ≠ l := fun e => by rw [e, hl] at g1; cases g1
      have n2 : l' ≠ D := (h.ln l' (List.mem_of_getElem? e1)).2.2
      exact ⟨ys, by rw [upd_ne n2, upd_ne n1]; exact g1, g2.imm tx (hi ts' (List.mem_of_getElem? e2))⟩
    · have e0 : i = ls.length := by
        have := (List.getElem?_eq_some_iff.mp e1).1
        rw [List.length_append] at this
        have h1 : [l].length = 1 := rfl
        omega
      subst e0
      rw [List.getElem?_append_right (Nat.le_refl _), Nat.sub_self] at e1
      rw [h.len, List.getElem?_append_right (Nat.le_refl _), Nat.sub_self] at e2
      have e1 : l = l' := Option.some.inj e1
      have e2 : ts = ts' := Option.some.inj e2
      subst e1 e2
      exact ⟨xs, by rw [upd_ne neD]; exact upd_same, hx.imm tx ht⟩
/-- [list(x) for x in t], t a tuple of tuples -/
theorem ev_lists {j : Nat} {vs : List Nat} {tss : List (List PyData)} {Q : VK} (kk : Ok R n H) (h : Ev R n m ta σ H (dP K R (· = .tuple (tss.map .tuple)))) (hl : tss.length ≤ 1000) (hi : ∀ ts ∈ tss, immAll ts = true)
    (hw : ∀ x, wipe ((wipe σ vs).set j (some x)) vs = wipe σ vs) (hj : ∀ x, ((wipe σ vs).set j (some x))[j]? = some (some x)) (q : ∀ D ls H1 H', Xt R H H1 → Ok R m H' → Lists K R H1 D ls tss H' → Q (.ref D) H') :
    tLc (iTup K ta) (gName j) tYes (tCB (fun xs H Q => ∃ p ys, xs = [.ref p] ∧ (SqL K H p ys ∨ SqT K H p ys) ∧ ∀ l, H l = none → Q (.ref l) (upd H l (.lst ys))) (tCons (tVar j) tNil)) vs σ H Q := by
  refine h H (.refl _) kk _ fun v H1 x1 k1 ⟨d, hd, e⟩ => ?_
  subst e
  obtain ⟨a, xs, rfl, hT, hA⟩ := dq_tup hd
  have lx := hA.length
  rw [List.length_map] at lx
  refine ⟨a, rfl, ⟨xs, hT⟩, fun D hD => ?_⟩
  have L0 : Lists K R H1 D [] [] (upd H1 D (.lst [])) := ⟨hD, .new hD, k1.fresh hD, upd_same, fun l hl => (by cases hl), rfl, .nil, fun i l ts e => (by simp at e)⟩
  refine lc_it (walk_tup (K := K) (a := a) (xs := xs)) (fun i H' => ∃ ls, Ok R m H' ∧ Lists K R H1 D ls (tss.take i) H') ⟨[], k1.new hD, L0⟩ (fun i H' _ ⟨ls, k', L⟩ => L.xt.seqT hT) (fun i x H2 H3 hlt ⟨ls, k', L⟩ y => ?_) (fun H2 ⟨ls, k', L⟩ => ?_)
  · obtain ⟨e1, e2⟩ := y
    subst e1
    refine ⟨hw x, ?_⟩
    obtain ⟨d, q1, q2⟩ := (hA.mono L.xt).getV e2
    rw [List.getElem?_map] at q1
    cases ht : tss[i]? with
    | none => rw [ht] at q1; cases q1
    | some ts =>
      rw [ht] at q1
      cases (Option.some.inj q1)
      obtain ⟨b, ys, rfl, g1, g2⟩ := dq_tup q2
      refine ⟨_, hj _, b, ys, rfl, .inr g1, fun l hl' => ?_⟩
      obtain ⟨L2, k2⟩ := L.add k' hl' g2 (fun ts' h' => hi ts' (List.mem_of_mem_take h')) (hi ts (List.mem_of_getElem? ht))
      have neD : D ≠ l := fun e => by rw [← e, L.at_] at hl'; cases hl'
      have e5 : tss.take (i + 1) = tss.take i ++ [ts] := by
        rw [List.take_succ, ht]
        rfl
      refine ⟨ls.map V.ref, by rw [upd_ne neD]; exact L.at_, ?_, ls ++ [l], ?_, ?_⟩
      · rw [List.length_map, L.len, List.length_take]
        exact Nat.lt_of_lt_of_le (by omega) (show 1001 ≤ sizeLine by decide)
      · rw [List.map_append] at k2
        exact k2
      · rw [e5]
        rw [List.map_append] at L2
        exact L2
  · rw [lx, List.take_length] at L
    exact q D ls H1 H2 x1 k' L
end
end LW

set_option Elab.async false
set_option linter.all false
set_option maxRecDepth 100000
set_option maxHeartbeats 4000000
namespace LW
open PySem PySem.Spec PyProof.Rows L2 LamX NdefX WE WLam WQ
mutual
theorem eqv_refl : ∀ {d : PyData}, imm d = true → PyData.eqv d d = true
  | .none, _ => by simp [PyData.eqv]
  | .bool b, _ => by simp [PyData.eqv]
  | .int i, _ => by simp [PyData.eqv]
  | .str x, _ => by simp [PyData.eqv]
  | .tuple ds, h => by
    unfold imm at h
    unfold PyData.eqv
    exact eqvAll_refl h
  | .list _, h => by unfold imm at h; cases h
  | .dict _, h => by unfold imm at h; cases h
theorem eqvAll_refl : ∀ {ds : List PyData}, immAll ds = true → PyData.eqvAll ds ds = true
  | [], _ => by simp [PyData.eqvAll]
  | d :: ds, h => by
    unfold immAll at h
    obtain ⟨h1, h2⟩ := Bool.and_eq_true_iff.mp h
    unfold PyData.eqvAll
    rw [eqv_refl h1, eqvAll_refl h2] <;> rfl
end
section
variable {K : PySem.W.Frag} {R : Rs} {σ : L2.St} {H H0 : Hp} {n m k : Nat} {tk : TA} {a b c : Int} {d1 d2 d3 d4 d5 : PyData} {s t h g r : List PyData} {C x D : Addr} {F : List (Str × PyData)} {ls : List Addr} {tz : TS} {Dn : Ends}
theorem ev_mkS0 {CS : Addr} (h2 : EvA R n m tk σ H ([(· = d5), (· = d4), (· = d3), (· = d2), (· = d1), (· = .int c), (· = .int b), (· = .int a)].map (dP K R))) (q1 : Seq d1 s) (q2 : Seq d2 t) (q3 : Seq d3 h) (q4 : Seq d4 g) (q5 : Seq d5 r) (O : OkS a b c s t h g r) :
    Ev R n m (tMakeK CS 0 8 (SpSI R.T K CS) (fun vs zs => vs ++ zs.reverse) E0 tNil tk) σ H (oP K R CS (sndF a b c s t h g r)) := fun H1 x1 k1 Q q => by
  show tk σ H1 _
  refine h2 H1 x1 k1 _ fun zs H3 x3 k3 r3 => ?_
  obtain ⟨fs, e2, ⟨_, _, rfl, rfl, _, _, rfl, rfl, _, _, rfl, rfl, _, _, rfl, rfl, _, _, rfl, rfl, _, _, rfl, rfl, _, _, rfl, rfl, _, _, rfl, rfl, rfl⟩, _⟩ := allR_D r3
  obtain ⟨u5, r, rfl, f5, e2⟩ := dqac e2
  obtain ⟨u4, r, rfl, f4, e2⟩ := dqac e2
  obtain ⟨u3, r, rfl, f3, e2⟩ := dqac e2
  obtain ⟨u2, u1, g1, g2, g3, rfl, f2, f1, h1, h2, h3⟩ := dqa5 e2
  cases h1
  cases h2
  cases h3
  refine ⟨rfl, rfl, fun x dx hx hd ne => ?_⟩
  exact ⟨rfl, R, m, H3, x, dx, a, b, c, u1, u2, u3, u4, u5, _, _, _, _, _, s, t, h, g, _, rfl, rfl, ⟨f1, f2, f3, f4, f5⟩, ⟨q1, q2, q3, q4, q5⟩, O, rfl, hx, hd, ne, k3, fun H4 x4 k4 I => ⟨rfl, q _ H4 (x3.trans x4) k4 ⟨x, rfl, k3.fresh hx, I⟩⟩⟩
theorem ev_mkR0 {CS : Addr} (h2 : EvA R n m tk σ H ([(· = d5), (· = d4), (· = d3), (· = d2), (· = d1), (· = .int c), (· = .int b), (· = .int a)].map (dP K R))) (q1 : Seq d1 s) (q2 : Seq d2 t) (q3 : Seq d3 h) (q4 : Seq d4 g) (q5 : Seq d5 r) (O : OkR a b c s t h g r) :
    Ev R n m (tMakeK CS 0 8 (SpRI R.T K CS) (fun vs zs => vs ++ zs.reverse) E0 tNil tk) σ H (oP K R CS (rcvF a b c s t h g r)) := fun H1 x1 k1 Q q => by
  show tk σ H1 _
  refine h2 H1 x1 k1 _ fun zs H3 x3 k3 r3 => ?_
  obtain ⟨fs, e2, ⟨_, _, rfl, rfl, _, _, rfl, rfl, _, _, rfl, rfl, _, _, rfl, rfl, _, _, rfl, rfl, _, _, rfl, rfl, _, _, rfl, rfl, _, _, rfl, rfl, rfl⟩, _⟩ := allR_D r3
  obtain ⟨u5, r, rfl, f5, e2⟩ := dqac e2
  obtain ⟨u4, r, rfl, f4, e2⟩ := dqac e2
  obtain ⟨u3, r, rfl, f3, e2⟩ := dqac e2
  obtain ⟨u2, u1, g1, g2, g3, rfl, f2, f1, h1, h2, h3⟩ := dqa5 e2
  cases h1
  cases h2
  cases h3
  refine ⟨rfl, rfl, fun x dx hx hd ne => ?_⟩
  exact ⟨rfl, R, m, H3, x, dx, a, b, c, u1, u2, u3, u4, u5, _, _, _, _, _, s, t, h, g, _, rfl, rfl, ⟨f1, f2, f3, f4, f5⟩, ⟨q1, q2, q3, q4, q5⟩, O, rfl, hx, hd, ne, k3, fun H4 x4 k4 I => ⟨rfl, q _ H4 (x3.trans x4) k4 ⟨x, rfl, k3.fresh hx, I⟩⟩⟩
/-- what the loop that spoils the lists keeps -/
structure Spoil (K : PySem.W.Frag) (R : Rs) (m : Nat) (H0 H : Hp) (D : Addr) (ls : List Addr) (C x : Addr) (F : List (Str × PyData)) (b : Nat) (H' : Hp) : Prop where
  ok : Ok R m H'
  xt : Xt R H0 H'
  at_ : H' D = some (.lst (ls.map V.ref))
  ins : InsD K C H' x F
  tx : Tx H H'
  ex : ∀ l ∈ ls, ∃ xs, H' l = some (.lst xs) ∧ 1 ≤ xs.length ∧ xs.length ≤ b
theorem Spoil.put {H' : Hp} {b : Nat} {l : Addr} {xs ys : List V} (S : Spoil K R m H0 H D ls C x F b H') (hn : H0 l = none ∧ ¬ R.M l ∧ l ≠ D) (hl : H' l = some (.lst xs)) (y1 : 1 ≤ ys.length) (y2 : ys.length ≤ b + 1) : Spoil K R m H0 H D ls C x F (b + 1) (upd H' l (.lst ys)) := by
  have t : Tx H' (upd H' l (.lst ys)) := .lst hl
  obtain ⟨dx, fs, h1, h2⟩ := S.ins
  refine ⟨ok_lst S.ok hl hn.2.1, S.xt.own hn.1, by rw [upd_ne (fun e => hn.2.2 e.symm)]; exact S.at_, ⟨dx, fs, by rw [upd_ne (ne_of h1 hl (fun z => nomatch z))]; exact h1, h2.tx t⟩, S.tx.trans t, fun l' hl' => ?_⟩
  by_cases e : l' = l
  · subst e
    exact ⟨ys, upd_same, y1, y2⟩
  · obtain ⟨zs, z1, z2, z3⟩ := S.ex l' hl'
    exact ⟨zs, by rw [upd_ne e]; exact z1, z2, by omega⟩
theorem q_spoil {z : Str} (S : Spoil K R m H0 H D ls C x F 1000 H) (hn : ∀ l ∈ ls, H0 l = none ∧ ¬ R.M l ∧ l ≠ D) (h3 : σ[3]? = some (some (.ref D))) (h5 : 5 < σ.length) (hl : ls.length ≤ 1000)
    (q : ∀ σ' H', (σ' = σ ∨ ∃ v, σ' = σ.set 5 (some v)) → Spoil K R m H0 H D ls C x F (1000 + 2 * ls.length) H' → tz Dn σ' H') :
    tSeq (tFor (iList K (tVar 3)) (gName 5) (tSeq (tAsg (tC (.str z)) (gSub (tVar 5) (tC (.int 0)) rSetL)) (tDrop (tBM K "list" rAppend (tVar 5) (tCons (tC .non) tNil))))) tz Dn σ H := by
  refine ⟨_, h3, D, rfl, ⟨_, .inl (.inl S.at_)⟩, ?_⟩
  refine for_it (D := { Dn with nx := tz Dn }) (walk_list (K := K) (a := D) (xs := ls.map V.ref)) (fun i σ' H' => (σ' = σ ∨ ∃ v, σ' = σ.set 5 (some v)) ∧ Spoil K R m H0 H D ls C x F (1000 + 2 * i) H') ⟨.inl rfl, S⟩ (fun i σ' H' _ ⟨_, S'⟩ => .inl (.inl S'.at_)) (fun i y σ' H' H'' hi ⟨eσ, S'⟩ yy => ?_) (fun σ' H' ⟨eσ, S'⟩ => ?_)
  · obtain ⟨e1, e2⟩ := yy
    subst e1
    rw [List.getElem?_map] at e2
    cases hli : ls[i]? with
    | none => rw [hli] at e2; cases e2
    | some l =>
      rw [hli] at e2
      cases (Option.some.inj e2)
      have hlm := List.mem_of_getElem? hli
      obtain ⟨xs, x1, x2, x3⟩ := S'.ex l hlm
      rw [List.length_map] at hi
      have e6 : σ'.set 5 (some (.ref l)) = σ.set 5 (some (.ref l)) := by
        rcases eσ with e | ⟨v, e⟩
        · rw [e]
        · rw [e, List.set_set]
      have e7 : (σ'.set 5 (some (.ref l)))[5]? = some (some (.ref l)) := by
        rw [e6, List.getElem?_set_self (by exact h5)]
      have S1 := S'.put (hn l hlm) x1 (ys := xs.set 0 (.str z)) (by rw [List.length_set]; exact x2) (by rw [List.length_set]; omega)
      have S2 := S1.put (hn l hlm) upd_same (ys := xs.set 0 (.str z) ++ [.non]) (by rw [List.length_append]; show 1 ≤ _ + 1; omega) (by rw [List.length_append, List.length_set]; show _ + 1 ≤ _; omega)
      refine ⟨_, e7, l, xs, 0, 0, rfl, rfl, x1, by unfold ixN; rw [if_pos (by decide), if_pos (by omega)]; rfl, ?_⟩
      refine ⟨_, e7, .inl ⟨rfl, _, .inl (.inl upd_same)⟩, l, _, .non, rfl, rfl, upd_same, by rw [List.length_set]; exact Nat.lt_of_lt_of_le (by omega) (show 4000 ≤ sizeLine by decide), ?_⟩
      exact ⟨.inr ⟨_, e6⟩, S2⟩
  · rw [List.length_map] at S'
    exact q σ' H' eσ S'
end
end LW

set_option Elab.async false
set_option linter.all false
set_option maxRecDepth 100000
set_option maxHeartbeats 4000000
namespace LW
open PySem PySem.Spec PyProof.Rows L2 LamX NdefX WE WLam WQ
section
variable {P : Program} {w : World} {K : PySem.W.Frag} {mg : Str → Option Value} {base : Heap} {T : List (Addr × Str)} {CP CS CR fX : Addr}
structure MkK (P : Program) (w : World) (K : PySem.W.Frag) (mg : Str → Option Value) (base : Heap) (x : Str) (C : Addr) (ks : List Str) (sp : Sp) : Prop where
  ex : ∃ (fI : Addr) (fd : FuncData), Mk K C fI ∧ mg x = some (.ref C) ∧ FnOk P w K mg base CX0 8 fI fd ("self" :: ks.reverse) sp ∧ KBn K fd ("self" :: ks.reverse) 1 ks (fun us ws => us ++ ws.reverse) (fun vs zs => vs ++ zs.reverse)
abbrev ksS8 : List Str := ["crashes", "takes", "hears", "ticks", "sends", "backward", "forward", "value_count"]
abbrev ksR8 : List Str := ["crashes", "gives", "hears", "ticks", "sends", "backward", "forward", "value_count"]
section
variable {X : Cx} {C : Addr} {x : Str} {ks : List Str} {sp : Sp} {j : Nat} {kws : List Keyword} {tk : TA} {p pos : Pos}
theorem pe_mk0 (M : MkK X.prog X.w X.K X.mg X.base x C ks sp) (hr : Room j X.A) (hj : 9 ≤ j) (hg : Gl X x) (hk : PK X kws tk) (h1 : ((backToKw pos (keywordEach kws X.env)).all fun x => x.1.isSome) = true := by rfl) (h2 : (backToKw pos (keywordEach kws X.env)).filterMap (fun x => x.1) = ks := by rfl)
    (h3 : (x == ("__debug__" : Str)) = false := by decide) (h5 : ((backTo pos (starEach [] X.env)).any (·.1) || (backToKw pos (keywordEach kws X.env)).any (·.1.isNone)) = false := by rfl) :
    PE X (.Call (.Name x p) [] kws pos) (tMakeK C 0 ks.length sp (fun vs zs => vs ++ zs.reverse) E0 tNil tk) := by
  obtain ⟨fI, fd, m1, m2, m3, m4⟩ := M.ex
  exact pe_makeK0 m1 m3 (hr.mono (by omega)) hg m2 m4 pass0 hk h1 h2 h3 h5
def tNo : TE := fun _ _ _ => False
theorem pe_never {e : Expr} : PE X e tNo := ⟨fun _ _ _ _ _ _ h => h.elim⟩
end
section
variable {R : Rs} {σ : L2.St} {H H0 H1 H2 : Hp} {n m : Nat} {te ta : TE} {tz : TS} {Dn : Ends} {D C x : Addr} {ls : List Addr} {F : List (Str × PyData)}
theorem q_lists {i j : Nat} {vs : List Nat} {tss : List (List PyData)} (kk : Ok R n H) (h : Ev R n m ta σ H (dP K R (· = .tuple (tss.map .tuple)))) (hl : tss.length ≤ 1000) (hi : ∀ ts ∈ tss, immAll ts = true)
    (hw : ∀ x, wipe ((wipe σ vs).set j (some x)) vs = wipe σ vs) (hj : ∀ x, ((wipe σ vs).set j (some x))[j]? = some (some x)) (q : ∀ D ls H1 H', Xt R H H1 → Ok R m H' → Lists K R H1 D ls tss H' → tz Dn (σ.set i (some (.ref D))) H') :
    tSeq (tAsg (tLc (iTup K ta) (gName j) tYes (tCB (fun xs H Q => ∃ p ys, xs = [.ref p] ∧ (SqL K H p ys ∨ SqT K H p ys) ∧ ∀ l, H l = none → Q (.ref l) (upd H l (.lst ys))) (tCons (tVar j) tNil)) vs) (gName i)) tz Dn σ H :=
  show tLc (iTup K ta) (gName j) tYes (tCB (fun xs H Q => ∃ p ys, xs = [.ref p] ∧ (SqL K H p ys ∨ SqT K H p ys) ∧ ∀ l, H l = none → Q (.ref l) (upd H l (.lst ys))) (tCons (tVar j) tNil)) vs σ H (fun x H1 => tz Dn (σ.set i (some x)) H1) from
    ev_lists kk h hl hi hw hj fun D ls H1 H' a b c => q D ls H1 H' a b c
theorem Lists.spoil {tss : List (List PyData)} (L : Lists K R H0 D ls tss H) (x2 : Xt R H H2) (k2 : Ok R m H2) (hI : InsD K C H2 x F) (hb : ∀ ts ∈ tss, 1 ≤ ts.length ∧ ts.length ≤ 1000) : Spoil K R m H0 H2 D ls C x F 1000 H2 := by
  refine ⟨k2, L.xt.trans x2, x2.keep D _ L.at_ L.nm (fun _ z => nomatch z), hI, ⟨fun _ _ h => h, fun _ _ _ h => h⟩, fun l hl => ?_⟩
  obtain ⟨i, hi⟩ := List.mem_iff_getElem?.mp hl
  have hlt : i < tss.length := by
    rw [← L.len]
    exact (List.getElem?_eq_some_iff.mp hi).1
  obtain ⟨xs, g1, g2⟩ := L.ex i l _ hi (List.getElem?_eq_getElem hlt)
  have := hb _ (List.getElem_mem hlt)
  exact ⟨xs, x2.keep l _ g1 (L.ln l hl).2.1 (fun _ z => nomatch z), by rw [g2.length]; exact this.1, by rw [g2.length]; exact this.2⟩
end
end
end LW

set_option Elab.async false
set_option linter.all false
set_option maxRecDepth 100000
set_option maxHeartbeats 4000000
namespace LW
open PySem PySem.Spec PyProof.Rows L2 LamX NdefX WE WLam WQ
section
variable {P : Program} {w : World} {K : PySem.W.Frag} {mg : Str → Option Value} {base : Heap} {T : List (Addr × Str)}
theorem s_retL {R : Rs} {σ : L2.St} {H : Hp} {n m : Nat} {tl : TA} {Ps : List (Rp R)} {Dn : Ends} (kk : Ok R n H) (h : EvA R n m tl σ H Ps) (q : ∀ vs H1, Xt R H H1 → Ok R m H1 → AllR Ps vs H1 → vs.length ≤ sizeLine ∧ ∀ p, H1 p = none → Dn.rt (.ref p) (upd H1 p (.lst vs))) : tRet (tLst tl) Dn σ H := h H (.refl _) kk _ q
theorem sc_law_purse : FnScope ["cells", "at", "cell"] ["cells", "at"] (defScope s_law_purse) := ⟨rfl, rfl, rfl, by decide +kernel, rfl, by decide +kernel, by decide +kernel⟩
def SpPu (T : List (Addr × Str)) (K : PySem.W.Frag) : Sp := fun vs H Q _ => vs.length = 2 ∧ ∃ (R : Rs) (m : Nat) (v : V) (is : List Int) (z : Int), R.T = T ∧ vs = [v, .int z] ∧ Ok R m H ∧ Dq K R.M H v (.list (is.map .int)) ∧ 0 ≤ z ∧ z ≤ 1000 ∧
  ∀ p H1 H', Xt R H H1 → H1 p = none → Xt R H1 H' → Ok R m H' → PurseAt p 900000000000 H' → Q (.ref p) H'
theorem p18 : CPowW 10 18 := ⟨by decide, by decide +kernel⟩
theorem p60 : CPowW 10 60 := ⟨by decide, by decide +kernel⟩
theorem pos60 : (0 : Int) < (10 : Int) ^ (60 : Int).toNat := by decide +kernel
theorem p8 : CPowW ((10 : Int) ^ (60 : Int).toNat) 8 := ⟨by decide, by decide +kernel⟩
theorem ex60 : ∃ B : Int, (10 : Int) ^ (60 : Int).toNat = B ∧ CPowW B 8 ∧ 0 < B ^ (8 : Int).toNat := ⟨_, rfl, p8, Int.pow_pos pos60⟩
theorem ok_law_purse (D : Def1 K mg "_law_purse" s_law_purse) (B : Bl mg) (hmx : mg "max" = none) : Cal P w K mg base CX0 1 "_law_purse" ["cells", "at"] (SpPu T K) := by
  refine cal_of D sc_law_purse (fun _ _ _ _ _ _ us hl => match us, hl with | [_, _], _ => rfl) (fun vs H Q E h => h.1) (fun f cdv A outer s0 H vs Q E hr h' => ?_)
  obtain ⟨_, R, m, v, is, z, rfl, rfl, ok, hd, z0, z1, fin⟩ := h'
  obtain ⟨B60, b60, p8, b480pos⟩ := ex60
  refine ⟨_, pss_cons (ps_set (i := 2) sc_law_purse.nd rfl (.inl rfl) pe_int)
    (pss_cons (ps_if (pt_cmpR op_lt (pv 1) (pe_callB call_len_seq (by rfl) B.len PySem.boot_len (pa_cons (pv 0) pa_nil)) (nomark _)) (pss_one (ps_set (i := 2) sc_law_purse.nd rfl (.inl rfl) (pe_ix (r := rIx K) ix_seq (pv 0) (pv 1) (fun _ _ => rfl)))) pss_nil)
    (pss_one (ps_ret (pe_lst (pa_cons (pe_op op_modN (pe_callTy call_int1 (by rfl) B.int (by decide +kernel) (pa_cons (pe_callB (call_max2 rfl) (by rfl) hmx (by decide +kernel) (pa_cons (pe_op op_sub (pv 2) (pe_op op_powW pe_int pe_int)) (pa_cons pe_int pa_nil))) pa_nil)) (pe_op op_powW (pe_op op_powW pe_int pe_int) pe_int))
      (pa_cons (pe_op op_modN (pe_callTy call_int1 (by rfl) B.int (by decide +kernel) (pa_cons (pv 2) pa_nil)) pe_int) (pa_cons (pe_op op_mul pe_int (pv 1)) pa_nil))))))), ?_⟩
  have tail : ∀ {c : Int} {H2 : Hp}, Xt R H H2 → Ok R m H2 → tRet (tLst (tCons (tOp (rI (fun _ j => j ≠ 0) fun i j => .int (i.fmod j)) (tCB (fun xs H Q => (∃ i, xs = [.int i] ∧ Q (.int i) H) ∨ ∃ k, xs = [.bl k] ∧ Q (.int (if k then 1 else 0)) H) (tCons (tCB (fun xs H Q => ∃ i j, xs = [.int i, .int j] ∧ Q (.int (if j > i then j else i)) H) (tCons (tOp (rI0 fun i j => .int (i - j)) (tVar 2) (tOp (rI CPowW fun i j => .int (i ^ j.toNat)) (tC (.int 10)) (tC (.int 18)))) (tCons (tC (.int 0)) tNil))) tNil)) (tOp (rI CPowW fun i j => .int (i ^ j.toNat)) (tOp (rI CPowW fun i j => .int (i ^ j.toNat)) (tC (.int 10)) (tC (.int 60))) (tC (.int 8))))
      (tCons (tOp (rI (fun _ j => j ≠ 0) fun i j => .int (i.fmod j)) (tCB (fun xs H Q => (∃ i, xs = [.int i] ∧ Q (.int i) H) ∨ ∃ k, xs = [.bl k] ∧ Q (.int (if k then 1 else 0)) H) (tCons (tVar 2) tNil)) (tC (.int 2147483647))) (tCons (tOp (rI CMul fun i j => .int (i * j)) (tC (.int 1000)) (tVar 1)) tNil)))) { nx := fun _ H' => Q .non H', rt := Q } [some v, some (.int z), some (.int c)] H2 := by
    intro c H2 x2 k2
    have e1 : Ev R m m (tOp (rI (fun _ j => j ≠ 0) fun i j => .int (i.fmod j)) (tCB (fun xs H Q => (∃ i, xs = [.int i] ∧ Q (.int i) H) ∨ ∃ k, xs = [.bl k] ∧ Q (.int (if k then 1 else 0)) H) (tCons (tCB (fun xs H Q => ∃ i j, xs = [.int i, .int j] ∧ Q (.int (if j > i then j else i)) H) (tCons (tOp (rI0 fun i j => .int (i - j)) (tVar 2) (tOp (rI CPowW fun i j => .int (i ^ j.toNat)) (tC (.int 10)) (tC (.int 18)))) (tCons (tC (.int 0)) tNil))) tNil)) (tOp (rI CPowW fun i j => .int (i ^ j.toNat)) (tOp (rI CPowW fun i j => .int (i ^ j.toNat)) (tC (.int 10)) (tC (.int 60))) (tC (.int 8)))) [some v, some (.int z), some (.int c)] H2 (iP R fun x => 0 ≤ x) :=
      ev_I (pi := fun _ => True) (qi := fun j => 0 < j) ((ev_int1 (ev_max2 (pi := fun _ => True) (ev_I0 (qi := fun _ => True) (ev_ivar rfl) (ev_I ev_int ev_int (fun i j e1 e2 => by have e1 : i = 10 := e1; have e2 : j = 18 := e2; rw [e1, e2]; exact p18) fun _ _ _ _ _ => ⟨_, rfl, trivial⟩) fun _ _ _ _ _ => ⟨_, rfl, trivial⟩) ev_int)).imp fun v H' _ ⟨i, e, _⟩ => ⟨i, e, trivial⟩) (ev_I (pi := (· = B60)) (qi := (· = 8)) (ev_I (pi := (· = 10)) (qi := (· = 60)) ev_int ev_int (fun i j e1 e2 => by have e1 : i = 10 := e1; have e2 : j = 60 := e2; rw [e1, e2]; exact p60) fun i j _ e1 e2 => ⟨_, rfl, by have e1 : i = 10 := e1; have e2 : j = 60 := e2; rw [e1, e2]; exact b60⟩) ev_int (fun i j e1 e2 => by have e1 : i = B60 := e1; have e2 : j = 8 := e2; rw [e1, e2]; exact p8) fun i j _ e1 e2 => ⟨_, rfl, by have e1 : i = B60 := e1; have e2 : j = 8 := e2; rw [e1, e2]; exact b480pos⟩) (fun i j _ h => by omega) fun i j _ _ h => ⟨_, rfl, Int.fmod_nonneg_of_pos _ h⟩
    have e2 : Ev R m m (tOp (rI (fun _ j => j ≠ 0) fun i j => .int (i.fmod j)) (tCB (fun xs H Q => (∃ i, xs = [.int i] ∧ Q (.int i) H) ∨ ∃ k, xs = [.bl k] ∧ Q (.int (if k then 1 else 0)) H) (tCons (tVar 2) tNil)) (tC (.int 2147483647))) [some v, some (.int z), some (.int c)] H2 (iP R fun x => 0 ≤ x ∧ x < 2147483647) :=
      ev_I (ev_int1 (ev_ivar rfl)) ev_int (fun i j _ e => by rw [e]; decide) fun i j _ _ e => ⟨_, rfl, by rw [e]; exact ⟨Int.fmod_nonneg_of_pos _ (by decide), Int.fmod_lt_of_pos _ (by decide)⟩⟩
    have e3 : Ev R m m (tOp (rI CMul fun i j => .int (i * j)) (tC (.int 1000)) (tVar 1)) [some v, some (.int z), some (.int c)] H2 (iP R fun x => 0 ≤ x ∧ x ≤ 1000000) :=
      ev_I (pi := (· = 1000)) ev_int (ev_ivar rfl) (fun i j e1 e2 => by subst e1 e2; exact .inl ⟨by omega, by omega⟩) fun i j _ e1 e2 => ⟨_, rfl, by subst e1 e2; omega⟩
    refine s_retL k2 (eva_cons e1 (eva_cons e2 (eva_cons e3 eva_nil))) fun vs H3 x3 k3 r3 => ?_
    obtain ⟨_, _, rfl, ⟨a, rfl, a0⟩, _, _, rfl, ⟨b, rfl, b0, b1⟩, _, _, rfl, ⟨d, rfl, d0, d1⟩, rfl⟩ := r3
    refine ⟨by show 3 ≤ sizeLine; decide, fun p hp => ?_⟩
    exact fin p H3 _ (x2.trans x3) hp (.new hp) (k3.new hp) ⟨a, b, d, upd_same, a0, b0, b1, d0, by omega⟩
  refine q_asg (P := iP R (· = 0)) ok ev_int fun v2 H1 x1 k1 ⟨_, e, e2⟩ => ?_
  subst e e2
  refine q_if k1 (p := fun b => b = decide (z < (is.length : Int))) (evt_test (ev_I0 (pi := (· = z)) (qi := (· = (is.length : Int))) (ev_ivar rfl) ((ev_len (ev_dvar rfl (hd.mono x1)) fun d e => ⟨_, .inr e⟩).imp fun v H' _ ⟨y, e, d, ds, e1, e2, e3⟩ => ⟨y, e, ?_⟩) fun i j _ e1 e2 => ⟨_, rfl, by rw [show i = z from e1, show j = (is.length : Int) from e2]⟩)) (fun e H2 x2 k2 => ?_) fun _ H2 x2 k2 => tail (x1.trans x2) k2
  · subst e1
    rcases e2 with e2 | e2
    · cases e2
    · cases e2
      rw [e3, List.length_map]
  · have hlt : z < (is.length : Int) := of_decide_eq_true e.symm
    have hlt' : z.toNat < is.length := by omega
    refine s_asg (P := dP K R (· = .int is[z.toNat])) k2 (ev_atE (ds := is.map .int) ((ev_dvar rfl ((hd.mono x1).mono x2)).imp fun v H' _ ⟨d, hd, e⟩ => ⟨d, hd, .inr e⟩) (ev_ivar rfl) z0 (by rw [List.getElem?_map, List.getElem?_eq_getElem hlt']; rfl)) fun v3 H3 x3 k3 ⟨d, hd3, e3⟩ => ?_
    subst e3
    have := dq_int hd3
    subst this
    exact tail ((x1.trans x2).trans x3) k3
end
end LW

set_option Elab.async false
set_option linter.all false
set_option maxRecDepth 100000
set_option maxHeartbeats 4000000
namespace LW
open PySem PySem.Spec PyProof.Rows L2 LamX NdefX WE WLam WQ
/-! ### keywords alone; str of a bool -/
def tCallK0 (m : Nat) (sp : Sp) (gV : List V → List V → List V) (E : XK) (tk : TA) : TE := fun σ H Q => tk σ H fun zs H2 => zs.length = m ∧ sp (gV [] zs) H2 Q E
section
variable {X : Cx} {CX : CXT} {k : Nat} {f : Addr} {fd : FuncData} {ps ks : List Str} {sp : Sp} {E : XK} {x : Str} {p pos : Pos} {kws : List Keyword} {tk : TA} {g : List Value → List Value → List Value} {gV : List V → List V → List V}
theorem pe_callK0 (F : FnOk X.prog X.w X.K X.mg X.base CX k f fd ps sp) (hr : Room k X.A) (hg : Gl X x) (hm : X.mg x = some (.ref f)) (hk : PySem.W.keepIn X.K (.ref f) = true) (hb : KBn X.K fd ps 0 ks g gV) (hx : Passes CX X E) (hkw : PK X kws tk)
    (hall : (backToKw pos (keywordEach kws X.env)).all (fun x => x.1.isSome) = true := by rfl) (hks : (backToKw pos (keywordEach kws X.env)).filterMap (fun x => x.1) = ks := by rfl) (hdb : (x == ("__debug__" : Str)) = false := by decide)
    (hpl : ((backTo pos (starEach [] X.env)).any (fun x => x.1) || (backToKw pos (keywordEach kws X.env)).any (fun x => x.1.isNone)) = false := by rfl) :
    PE X (.Call (.Name x p) [] kws pos) (tCallK0 ks.length sp gV E tk) := by
  refine ⟨fun pins s σ H Q I h => ?_⟩
  refine wpAny_Call_Name_kw (ld_glob I hg hm ?_ hdb)
  refine PySem.W.callWith_KW0 (h₀ := X.base) I.ok.mod.kin hk hall ?_ hpl
  refine thn (hkw.run pos pins s σ H _ I h) fun ws s2 ⟨zs, H2, I2, rz, l2, q2⟩ => ⟨I2.kIn, ?_⟩
  rw [hks]
  have r2 := hb.rel .nil rz
  refine wpAny_call (codeAny_mono (F.run X.A X.stack s2 H2 ⟨[], ks.zip ws⟩ (g [] ws) (gV [] zs) Q E hr I2.env0 (hb.to s2 [] ws I2.kIn rfl (rz.length.symm.trans l2)) r2 q2) fun r s' hq => ?_)
  cases r with
  | error e => exact hx pins σ H2 s2 e s' I2 hq
  | ok fl =>
    cases fl with
    | ret u => exact I2.after hq
    | next => exact False.elim hq
    | brk => exact False.elim hq
    | cont => exact False.elim hq
theorem call_str_bool : CallR X (.type "str") (fun xs H Q => ∃ b : Bool, xs = [.bl b] ∧ Q (.str (if b then "True" else "False")) H) := by
  intro pins s σ H xs us Q I r h
  obtain ⟨b, rfl, q⟩ := h
  obtain ⟨u, rfl, r1⟩ := vals1 r
  cases r1
  exact PySem.P.str_of_bool ⟨.str _, H, I.tok _, ⟨_, rfl⟩, q⟩
end
section
variable {K : PySem.W.Frag} {R : Rs} {σ : L2.St} {H H0 : Hp} {n m k : Nat} {te ta tb : TE} {tl : TA} {tt : TT} {l : List PyData} {P1 : Rp R} {Ps : List (Rp R)} {p : Addr}
/-- [x for x in t if ..] -/
theorem ev_lcF {j : Nat} {vs : List Nat} {f : PyData → Bool} (h : Ev R n m ta σ H (dP K R (· = .tuple l))) (hl : l.length ≤ 1000) (hi : immAll l = true)
    (hw : ∀ x, wipe ((wipe σ vs).set j (some x)) vs = wipe σ vs) (hj : ∀ x, ((wipe σ vs).set j (some x))[j]? = some (some x))
    (ht : ∀ (d : PyData) (v : V) (H2 : Hp), d ∈ l → Xt R H H2 → Dq K R.M H2 v d → EvT R m m tt ((wipe σ vs).set j (some v)) H2 (· = f d)) :
    Ev R n m (tLc (iTup K ta) (gName j) tt (tVar j) vs) σ H (lP K R (· = l.filter f)) := fun H1 x z Q q =>
  h H1 x z _ fun v H2 x2 k2 ⟨d, hd, e⟩ => by
    subst e
    obtain ⟨a, xs, rfl, hT, hA⟩ := dq_tup hd
    have lx := hA.length
    refine ⟨a, rfl, ⟨xs, hT⟩, fun D hD => ?_⟩
    have nD := k2.fresh hD
    refine lc_it (walk_tup (K := K) (a := a) (xs := xs)) (fun i H' => ∃ acc, H' D = some (.lst acc) ∧ acc.length ≤ i ∧ Xt R H2 H' ∧ Ok R m H' ∧ DqAll K R.M H' acc ((l.take i).filter f)) ⟨[], upd_same, Nat.le_refl _, .new hD, k2.new hD, .nil⟩ (fun i H' _ ⟨_, _, _, x', _⟩ => x'.seqT hT) (fun i y H3 H4 hlt ⟨acc, e1, la, x3, k3, d3⟩ yy => ?_) (fun H3 ⟨acc, e1, la, x3, k3, d3⟩ => ?_)
    · obtain ⟨e4, e5⟩ := yy
      subst e4
      obtain ⟨d', q1, q2⟩ := (hA.mono x3).getV e5
      have hm := List.mem_of_getElem? q1
      refine ⟨hw y, ?_⟩
      refine ht d' y H4 hm ((x.trans x2).trans x3) q2 H4 (.refl _) k3 _ fun b H5 x5 k5 e => ?_
      subst e
      have e1' : H5 D = some (.lst acc) := x5.keep D _ e1 nD (fun _ z => nomatch z)
      have et : (l.take (i + 1)).filter f = (l.take i).filter f ++ [d'].filter f := by
        rw [List.take_succ, q1, List.filter_append] <;> rfl
      cases hf : f d' with
      | true =>
        refine iteT ⟨y, hj y, acc, e1', Nat.lt_of_le_of_lt la (Nat.lt_of_lt_of_le (by omega) (show 2000 ≤ sizeLine by decide)), acc ++ [y], upd_same, by rw [List.length_append]; show acc.length + 1 ≤ _; omega, (x3.trans x5).own hD, ok_lst k5 e1' nD, ?_⟩
        have t : Tx H5 (upd H5 D (.lst (acc ++ [y]))) := .lst e1'
        have im : immAll ((l.take i).filter f) = true := immAll_mem fun e he => immAll_get hi e (List.mem_of_mem_take (List.mem_filter.mp he).1)
        rw [et, show [d'].filter f = [d'] from by rw [List.filter_cons, hf] <;> rfl]
        exact (d3.imm (x5.tx.trans t) im).append (.cons (q2.imm (x5.tx.trans t) (immAll_get hi d' hm)) .nil)
      | false =>
        refine iteF ⟨acc, e1', by omega, x3.trans x5, k5, ?_⟩
        rw [et, show [d'].filter f = [] from by rw [List.filter_cons, hf] <;> rfl, List.append_nil]
        exact d3.mono x5
    · rw [lx, List.take_length] at d3
      exact q _ H3 (x2.trans x3) k3 ⟨D, acc, _, rfl, nD, e1, d3, rfl⟩
/-- x in [..], no item equal -/
def lR (R : Rs) (Ps : List (Rp R)) : Rp R := ⟨fun v H => ∃ a xs, v = .ref a ∧ ¬ R.M a ∧ H a = some (.lst xs) ∧ AllR Ps xs H, fun _ _ _ x ⟨a, xs, e, n, h, r⟩ => ⟨a, xs, e, n, x.keep a _ h n (fun _ z => nomatch z), r.mono x⟩⟩
theorem chainF {r : R2} {x : V} {xs : List V} (np : ¬ R.M p) : ∀ {Ps : List (Rp R)} {zs : List V} {H1 : Hp}, AllR Ps zs H1 → Xt R H H1 → Ok R m H1 → P1.r x H1 → H1 p = some (.lst xs) → (∀ P ∈ Ps, ∀ z H2, Xt R H H2 → Ok R m H2 → P.r z H2 → P1.r x H2 → ∀ Q : VK, (∀ H3, Xt R H2 H3 → Ok R m H3 → Q (.bl false) H3) → r z x H2 Q) →
    ∀ Q : VK, (∀ H2, Xt R H1 H2 → Ok R m H2 → Q (.bl false) H2) → Chain r p x xs zs H1 Q
  | [], zs, H1, h, x1, k1, h1, hp, hr, Q, q => by
    rw [show zs = [] from h]
    exact q H1 (.refl _) k1
  | P :: Ps, zs, H1, ⟨z, r', e, hz, h⟩, x1, k1, h1, hp, hr, Q, q => by
    subst e
    refine hr P (List.mem_cons_self ..) z H1 x1 k1 hz h1 _ fun H3 x3 k3 => ⟨false, rfl, (fun z => nomatch z), (fun _ => ⟨x3.keep p _ hp np (fun _ z => nomatch z), ?_⟩)⟩
    exact chainF np (h.mono x3) (x1.trans x3) k3 (P1.mono _ _ _ x3 h1) (x3.keep p _ hp np (fun _ z => nomatch z)) (fun P hP => hr P (List.mem_cons_of_mem _ hP)) Q fun H4 x4 k4 => q H4 (x3.trans x4) k4
theorem ev_inF {r : R2} (ha : Ev R n k ta σ H P1) (hl : EvA R k m tl σ H Ps) (hn : Ps.length ≤ 1000) (hr : ∀ P ∈ Ps, ∀ z x H1, Xt R H H1 → Ok R m H1 → P.r z H1 → P1.r x H1 → ∀ Q : VK, (∀ H2, Xt R H1 H2 → Ok R m H2 → Q (.bl false) H2) → r z x H1 Q) :
    Ev R n m (tOp (rInO r) ta (tLst tl)) σ H (bP R (· = false)) :=
  ev_op (P2 := lR R Ps) ha (ev_lst hl hn fun p vs H1 _ np hp r => ⟨p, vs, rfl, np, hp, r⟩) fun x y H1 x1 k hx ⟨p, xs, e, np, hp, h⟩ Q q => by
    subst e
    exact ⟨p, xs, rfl, hp, chainF np h x1 k hx hp (fun P hP z H2 x2 k2 hz h1 => hr P hP z x H2 x2 k2 hz h1) Q fun H2 x2 k2 => q _ H2 x2 k2 ⟨false, rfl, rfl⟩⟩
end
section
variable {K : PySem.W.Frag} {R : Rs} {σ : L2.St} {H H' : Hp} {n m : Nat} {ta : TE} {D : Ends} {tz tu : TS} {g : TG} {ds : List PyData}
/-- for x in a tuple of data -/
theorem q_forT (k : Ok R n H) (h : Ev R n m ta σ H (dP K R (· = .tuple ds)))
    (z : ∀ (H1 : Hp), Xt R H H1 → Ok R m H1 → ∃ Pv : Nat → L2.St → Hp → Prop, Pv 0 σ H1 ∧ (∀ i σ' H', Pv i σ' H' → Xt R H1 H') ∧
      (∀ (i : Nat) (d : PyData) (v : V) (σ' : L2.St) (H' : Hp), ds[i]? = some d → Pv i σ' H' → Dq K R.M H' v d → g v σ' H' fun σ2 H2 => tu { D with nx := Pv (i + 1), ct := Pv (i + 1), bk := tz D } σ2 H2) ∧
      ∀ σ' H', Pv ds.length σ' H' → tz D σ' H') : tSeq (tFor (iTup K ta) g tu) tz D σ H := by
  refine h H (.refl _) k _ fun v H1 x1 k1 ⟨d, hd, e⟩ => ?_
  subst e
  obtain ⟨a, xs, rfl, hT, hA⟩ := dq_tup hd
  obtain ⟨Pv, z0, z1, z2, z3⟩ := z H1 x1 k1
  refine ⟨a, rfl, ⟨xs, hT⟩, for_it (D := { D with nx := tz D }) (walk_tup (K := K) (a := a) (xs := xs)) Pv z0 (fun i σ' H' _ q => (z1 i σ' H' q).seqT hT) (fun i y σ' H' H'' hi q yy => ?_) (fun σ' H' q => z3 σ' H' (by rw [← hA.length]; exact q))⟩
  obtain ⟨e1, e2⟩ := yy
  subst e1
  obtain ⟨d', q1, q2⟩ := (hA.mono (z1 i σ' H'' q)).getV e2
  exact z2 i d' y σ' H'' q1 q q2
end
end LW

set_option Elab.async false
set_option linter.all false
set_option maxRecDepth 100000
set_option maxHeartbeats 4000000
namespace LW
open PySem PySem.Spec PyProof.Rows L2 LamX NdefX WE WLam WQ
/-- the classes stand apart from one another and from the built-in ones -/
structure Apart (K : PySem.W.Frag) (CP CS CR : Addr) : Prop where
  sp : PySem.W.kitOne K (.ref CS) (.ref CP) = some false
  rp : PySem.W.kitOne K (.ref CR) (.ref CP) = some false
  rs : PySem.W.kitOne K (.ref CR) (.ref CS) = some false
  ps : PySem.W.kitOne K (.ref CP) (.ref CS) = some false
  pr : PySem.W.kitOne K (.ref CP) (.ref CR) = some false
  nPS : PySem.W.notFirst K CP (.ref CS) = true
  nPR : PySem.W.notFirst K CP (.ref CR) = true
  nSR : PySem.W.notFirst K CS (.ref CR) = true
  nSP : PySem.W.notFirst K CS (.ref CP) = true
  nRP : PySem.W.notFirst K CR (.ref CP) = true
  nPt : PySem.W.notFirst K CP (.type "tuple") = true
  kPt : PySem.W.kitOne K (.type "tuple") (.ref CP) = some false
  aS : Away K CS
  aR : Away K CR
  aP : Away K CP
  bS : ∀ t ∈ ["NoneType", "int", "str"], PySem.W.kitOne K (.type t) (.ref CS) = some false
  bR : ∀ t ∈ ["NoneType", "int", "str"], PySem.W.kitOne K (.type t) (.ref CR) = some false
  bP : ∀ t ∈ ["NoneType", "int", "str"], PySem.W.kitOne K (.type t) (.ref CP) = some false
def AtomT (z : V) (t : String) : Prop := (z = .non ∧ t = "NoneType") ∨ (∃ i, z = .int i ∧ t = "int") ∨ ∃ s, z = .str s ∧ t = "str"
section
variable {K : PySem.W.Frag} {R : Rs} {H : Hp} {m : Nat} {z x : V} {t : String} {C CP CS CR : Addr} {f7 : Str} {F : List (Str × PyData)} {ds rs : List PyData} {sd rd : List (Str × PyData)} {Q : VK}
theorem AtomT.ty (h : AtomT z t) (H' : Hp) : TyX K H' z (.type t) := by
  rcases h with ⟨rfl, rfl⟩ | ⟨i, rfl, rfl⟩ | ⟨s, rfl, rfl⟩
  · exact .base .non
  · exact .base (.int i)
  · exact .base (.str s)
theorem AtomT.at (h : AtomT z t) : z = .non ∨ (∃ i, z = .int i) ∨ ∃ s, z = .str s := by
  rcases h with ⟨rfl, rfl⟩ | ⟨i, rfl, rfl⟩ | ⟨s, rfl, rfl⟩
  · exact .inl rfl
  · exact .inr (.inl ⟨i, rfl⟩)
  · exact .inr (.inr ⟨s, rfl⟩)
theorem AtomT.mem (h : AtomT z t) : t ∈ ["NoneType", "int", "str"] := by
  rcases h with ⟨rfl, rfl⟩ | ⟨i, rfl, rfl⟩ | ⟨s, rfl, rfl⟩ <;> simp
theorem r_back8 (i8 : Is8 f7 F ds) (la : ∀ d ∈ ds, Lay 2 d) (hz : AtomT z t) (hk : ∀ t ∈ ["NoneType", "int", "str"], PySem.W.kitOne K (.type t) (.ref C) = some false) (k : Ok R m H) (hx : (oP K R C F).r x H) (q : ∀ H2, Xt R H H2 → Ok R m H2 → Q (.bl false) H2) : rBack K C (SpE8 R.T K C f7) E0 z x H Q := by
  obtain ⟨a, rfl, na, hA⟩ := hx
  obtain ⟨dx, fs, g1, g2⟩ := id hA
  exact ⟨hz.at, a, dx, fs, rfl, g1, rfl, R, m, a, z, F, ds, rfl, rfl, k, na, hA, i8, la, .inr ⟨.type t, fun H' _ => hz.ty H', hk t hz.mem, fun H' x' k' => ⟨false, rfl, q H' x' k'⟩⟩⟩
theorem r_backP (pd : PDat sd rd ds rs) (hz : AtomT z t) (hk : ∀ t ∈ ["NoneType", "int", "str"], PySem.W.kitOne K (.type t) (.ref CP) = some false) (k : Ok R m H) (hx : (pP K R CP CS CR sd rd).r x H) (q : ∀ H2, Xt R H H2 → Ok R m H2 → Q (.bl false) H2) : rBack K CP (SpEP R.T K CP CS CR) E0 z x H Q := by
  obtain ⟨a, rfl, hA⟩ := hx
  obtain ⟨dx, fs, _, _, g1, _⟩ := id hA.ex
  exact ⟨hz.at, a, dx, fs, rfl, g1, rfl, R, m, a, z, sd, rd, ds, rs, rfl, rfl, k, hA, pd, .inr ⟨.type t, fun H' _ => hz.ty H', hk t hz.mem, fun H' x' k' => ⟨false, rfl, q H' x' k'⟩⟩⟩
theorem kit_ne {C D : Addr} (h : PySem.W.kitOne K (.ref C) (.ref D) = some false) : C ≠ D := fun e => by
  subst e
  rw [kit_self] at h
  cases h
theorem r_ownP (I : ClsI K C) (pd : PDat sd rd ds rs) (hk : PySem.W.kitOne K (.ref C) (.ref CP) = some false) (hn : PySem.W.notFirst K CP (.ref C) = true) (k : Ok R m H) (hz : (pP K R CP CS CR sd rd).r z H) (hx : (oP K R C F).r x H) (q : ∀ H2, Xt R H H2 → Ok R m H2 → Q (.bl false) H2) : rOwnB K CP (SpEP R.T K CP CS CR) E0 z x H Q := by
  obtain ⟨p, rfl, hP⟩ := hz
  obtain ⟨dx, fs, _, _, g1, _⟩ := id hP.ex
  obtain ⟨a, rfl, na, hA⟩ := hx
  obtain ⟨dy, gs, g3, g4⟩ := id hA
  refine ⟨fun e => ?_, p, dx, fs, .ref C, rfl, g1, ty_ins I g3, hn, rfl, R, m, p, _, sd, rd, ds, rs, rfl, rfl, k, hP, pd, .inr ⟨.ref C, fun H' x' => ?_, hk, fun H' x' k' => ⟨false, rfl, q H' x' k'⟩⟩⟩
  · cases e
    rw [g1] at g3
    cases g3
    exact kit_ne hk rfl
  · obtain ⟨_, _, g5, _⟩ := hA.mono2 na x'
    exact ty_ins I g5
theorem r_own8 (I : ClsI K CP) (i8 : Is8 f7 F ds) (la : ∀ d ∈ ds, Lay 2 d) (hk : PySem.W.kitOne K (.ref CP) (.ref C) = some false) (hn : PySem.W.notFirst K C (.ref CP) = true) (k : Ok R m H) (hz : (oP K R C F).r z H) (hx : (pP K R CP CS CR sd rd).r x H) (q : ∀ H2, Xt R H H2 → Ok R m H2 → Q (.bl false) H2) : rOwnB K C (SpE8 R.T K C f7) E0 z x H Q := by
  obtain ⟨p, rfl, hP⟩ := hx
  obtain ⟨dx, fs, _, _, g1, _⟩ := id hP.ex
  obtain ⟨a, rfl, na, hA⟩ := hz
  obtain ⟨dy, gs, g3, g4⟩ := id hA
  refine ⟨fun e => ?_, a, dy, gs, .ref CP, rfl, g3, ty_ins I g1, hn, rfl, R, m, a, _, F, ds, rfl, rfl, k, na, hA, i8, la, .inr ⟨.ref CP, fun H' x' => ?_, hk, fun H' x' k' => ⟨false, rfl, q H' x' k'⟩⟩⟩
  · cases e
    rw [g1] at g3
    cases g3
    exact kit_ne hk rfl
  · obtain ⟨_, _, _, _, g5, _⟩ := (hP.mono x').ex
    exact ty_ins I g5
end
abbrev rIn8 (T : List (Addr × Str)) (K : PySem.W.Frag) (CP CS CR C : Addr) (f7 : Str) : R2 := fun x y H Q => rBack K C (SpE8 T K C f7) E0 x y H Q ∨ rOwnB K CP (SpEP T K CP CS CR) E0 x y H Q
abbrev rInP (T : List (Addr × Str)) (K : PySem.W.Frag) (CP CS CR : Addr) : R2 := fun x y H Q => rBack K CP (SpEP T K CP CS CR) E0 x y H Q ∨ (rOwnB K CS (SpE8 T K CS "_takes") E0 x y H Q ∨ rOwnB K CR (SpE8 T K CR "_gives") E0 x y H Q)
section
variable {K : PySem.W.Frag} {R : Rs} {σ : L2.St} {H : Hp} {n m k l : Nat} {ta tb tc : TE} {t u : TT} {C CP CS CR : Addr} {f7 : Str} {F : List (Str × PyData)} {ds rs : List PyData} {sd rd : List (Str × PyData)} {i : Int} {s : Str}
/-- x in [None, 5, "x", pair], x a program -/
theorem ev_in8 (I : ClsI K C) (i8 : Is8 f7 F ds) (la : ∀ d ∈ ds, Lay 2 d) (hb : ∀ t ∈ ["NoneType", "int", "str"], PySem.W.kitOne K (.type t) (.ref C) = some false) {es : List PyData} (pd : PDat sd rd es rs) (hk : PySem.W.kitOne K (.ref C) (.ref CP) = some false) (hn : PySem.W.notFirst K CP (.ref C) = true)
    (h1 : Ev R n k ta σ H (oP K R C F)) (h2 : Ev R k m tb σ H (pP K R CP CS CR sd rd)) : Ev R n m (tOp (rInO (rIn8 R.T K CP CS CR C f7)) ta (tLst (tCons (tC .non) (tCons (tC (.int i)) (tCons (tC (.str s)) (tCons tb tNil)))))) σ H (bP R (· = false)) := by
  refine ev_inF (Ps := [vP R .non, vP R (.int i), vP R (.str s), pP K R CP CS CR sd rd]) h1 (eva_cons (ev_c fun _ => rfl) (eva_cons (ev_c fun _ => rfl) (eva_cons (ev_c fun _ => rfl) (eva_cons h2 eva_nil)))) (by show 4 ≤ 1000; decide) fun P hP z x H1 x1 k1 hz hx Q q => ?_
  rcases List.mem_cons.mp hP with e | hP
  · subst e
    exact .inl (r_back8 i8 la (.inl ⟨hz, rfl⟩) hb k1 hx q)
  rcases List.mem_cons.mp hP with e | hP
  · subst e
    exact .inl (r_back8 i8 la (.inr (.inl ⟨_, hz, rfl⟩)) hb k1 hx q)
  rcases List.mem_cons.mp hP with e | hP
  · subst e
    exact .inl (r_back8 i8 la (.inr (.inr ⟨_, hz, rfl⟩)) hb k1 hx q)
  rcases List.mem_cons.mp hP with e | hP
  · subst e
    exact .inr (r_ownP I pd hk hn k1 hz hx q)
  · cases hP
/-- pair in [None, 5, sender, receiver] -/
theorem ev_inP (A : Apart K CP CS CR) (I : ClsI K CP) {F' : List (Str × PyData)} {es : List PyData} (i8 : Is8 "_takes" F ds) (la : ∀ d ∈ ds, Lay 2 d) (j8 : Is8 "_gives" F' es) (lb : ∀ d ∈ es, Lay 2 d) {ps : List PyData} (pd : PDat sd rd ps rs)
    (h1 : Ev R n k ta σ H (pP K R CP CS CR sd rd)) (h2 : Ev R k l tb σ H (oP K R CS F)) (h3 : Ev R l m tc σ H (oP K R CR F')) : Ev R n m (tOp (rInO (rInP R.T K CP CS CR)) ta (tLst (tCons (tC .non) (tCons (tC (.int i)) (tCons tb (tCons tc tNil)))))) σ H (bP R (· = false)) := by
  refine ev_inF (Ps := [vP R .non, vP R (.int i), oP K R CS F, oP K R CR F']) h1 (eva_cons (ev_c fun _ => rfl) (eva_cons (ev_c fun _ => rfl) (eva_cons h2 (eva_cons h3 eva_nil)))) (by show 4 ≤ 1000; decide) fun P hP z x H1 x1 k1 hz hx Q q => ?_
  rcases List.mem_cons.mp hP with e | hP
  · subst e
    exact .inl (r_backP pd (.inl ⟨hz, rfl⟩) A.bP k1 hx q)
  rcases List.mem_cons.mp hP with e | hP
  · subst e
    exact .inl (r_backP pd (.inr (.inl ⟨_, hz, rfl⟩)) A.bP k1 hx q)
  rcases List.mem_cons.mp hP with e | hP
  · subst e
    exact .inr (.inl (r_own8 I i8 la A.ps A.nSP k1 hz hx q))
  rcases List.mem_cons.mp hP with e | hP
  · subst e
    exact .inr (.inr (r_own8 I j8 lb A.pr A.nRP k1 hz hx q))
  · cases hP
theorem evt_orF (h1 : EvT R n m t σ H (· = false)) (h2 : EvT R m m u σ H (· = false)) : EvT R n m (tOr t u) σ H (· = false) := (evt_or (q := (· = false)) h1 fun _ => h2).imp fun b h => by
  rcases h with ⟨_, z⟩ | ⟨_, z⟩
  · cases z
  · exact z
theorem evt_notT (h : EvT R n m t σ H (· = true)) : EvT R n m (tNot t) σ H (· = false) := (evt_not h).imp fun b h => by cases b <;> simp_all
theorem ev_ofBE {b : Bool} (h : Ev R n m ta σ H (bP R (· = b))) : Ev R n m ta σ H (dP K R (· = .bool b)) := h.imp fun v H' _ ⟨b, e, e2⟩ => ⟨.bool b, e ▸ .bl b, by rw [e2]⟩
theorem ev_eqL {d e : PyData} (ha : Ev R n k ta σ H (dP K R (· = d))) (hb : Ev R k m tb σ H (dP K R (· = e))) (hd : Lay 6 d) (he : Lay 6 e) : Ev R n m (tOp (rEqD K) ta tb) σ H (bP R (· = PyData.eqv d e)) :=
  (ev_eqD ha hb (fun x h => by rw [h]; exact hd.shaped (by decide)) (fun x h => by rw [h]; exact he.shaped (by decide))).imp fun v H' _ ⟨b, e, x, y, e1, e2, e3⟩ => ⟨b, e, by rw [e3, e1, e2]⟩
theorem ev_neL {d e : PyData} (ha : Ev R n k ta σ H (dP K R (· = d))) (hb : Ev R k m tb σ H (dP K R (· = e))) (hd : Lay 6 d) (he : Lay 6 e) : Ev R n m (tOp (rNeD K) ta tb) σ H (bP R (· = !PyData.eqv d e)) :=
  (ev_neD ha hb (fun x h => by rw [h]; exact hd.shaped (by decide)) (fun x h => by rw [h]; exact he.shaped (by decide))).imp fun v H' _ ⟨b, e, x, y, e1, e2, e3⟩ => ⟨b, e, by rw [e3, e1, e2]⟩
/-- != of two pairs -/
theorem ev_neP {sd' rd' : List (Str × PyData)} {ds' rs' : List PyData} (I : ClsI K CP) (ha : Ev R n k ta σ H (pP K R CP CS CR sd rd)) (hb : Ev R k m tb σ H (pP K R CP CS CR sd' rd')) (h1 : PDat sd rd ds rs) (h2 : PDat sd' rd' ds' rs') :
    Ev R n m (tOp (rOwnN K CP (SpEP R.T K CP CS CR) E0) ta tb) σ H (bP R (· = !(PyData.eqvAll ds ds' && PyData.eqvAll rs rs'))) :=
  ev_op ha hb fun x y H1 _ k ⟨a, e1, hA⟩ ⟨b, e2, hB⟩ Q q => by
    subst e1 e2
    obtain ⟨dx, fs, _, _, g1, _⟩ := id hA.ex
    obtain ⟨dy, gs, _, _, g3, _⟩ := id hB.ex
    exact ⟨a, dx, fs, .ref CP, rfl, g1, ty_ins I g3, nf_self, rfl, R, _, a, _, sd, rd, ds, rs, rfl, rfl, k, hA, h1, .inl ⟨b, sd', rd', ds', rs', rfl, hB, h2, fun H' x' k' => ⟨_, rfl, q _ H' x' k' ⟨_, rfl, rfl⟩⟩⟩⟩
/-- Pair(receiver=.., sender=..) -/
theorem ev_mkPK {tk : TA} {a b c : Int} (h : EvA R n m tk σ H [oP K R CR rd, oP K R CS sd]) (a1 : (("_value_count" : Str), PyData.int a) ∈ sd ∧ (("_forward" : Str), PyData.int b) ∈ sd ∧ (("_backward" : Str), PyData.int c) ∈ sd) (b1 : (("_value_count" : Str), PyData.int a) ∈ rd ∧ (("_forward" : Str), PyData.int b) ∈ rd ∧ (("_backward" : Str), PyData.int c) ∈ rd) :
    Ev R n m (tMakeK CP 0 2 (SpPI R.T K CP CS CR) (fun vs zs => vs ++ zs.reverse) E0 tNil tk) σ H (pP K R CP CS CR sd rd) := fun H1 x1 k1 Q q => by
  show tk σ H1 _
  refine h H1 x1 k1 _ fun zs H3 x3 k3 r3 => ?_
  obtain ⟨_, _, rfl, ⟨r, rfl, nr, hR⟩, _, _, rfl, ⟨s, rfl, ns, hS⟩, rfl⟩ := r3
  refine ⟨rfl, rfl, fun p dp hp hd ne => ?_⟩
  exact ⟨rfl, R, m, H3, p, dp, s, r, sd, rd, a, b, c, rfl, rfl, ns, nr, hS, hR, a1, b1, rfl, hp, hd, ne, k3, fun H4 x4 k4 I => ⟨rfl, q _ H4 (x3.trans x4) k4 ⟨p, rfl, I⟩⟩⟩
/-- str(b) == str(c), the same bool -/
theorem ev_strEq {b : Bool} (h1 : Ev R n k ta σ H (bP R (· = b))) (h2 : Ev R k m tb σ H (bP R (· = b))) : Ev R n m (tOp rEq (tCB (fun xs H Q => ∃ b : Bool, xs = [.bl b] ∧ Q (.str (if b then "True" else "False")) H) (tCons ta tNil)) (tCB (fun xs H Q => ∃ b : Bool, xs = [.bl b] ∧ Q (.str (if b then "True" else "False")) H) (tCons tb tNil))) σ H (bP R (· = true)) := fun H1 x1 k1 Q q =>
  h1 H1 x1 k1 _ fun v H2 x2 k2 ⟨b1, e1, e2⟩ => by
    subst e1 e2
    refine ⟨b1, rfl, ?_⟩
    refine h2 H2 (x1.trans x2) k2 _ fun u H3 x3 k3 ⟨b2, e1, e2⟩ => ?_
    subst e1 e2
    exact ⟨b2, rfl, rfl, q _ H3 (x2.trans x3) k3 ⟨_, rfl, decide_eq_true rfl⟩⟩
theorem ev_mdE {te : TE} {a b c : Int} {s t h k' r s' t' h' g' r' : List PyData} (he : Ev R n m te σ H (dP K R (· = .tuple [szs a b c, tabs5 s t h k' r, tabs5 s' t' h' g' r']))) (O1 : OkS a b c s t h k' r) (O2 : OkR a b c s' t' h' g' r') :
    Ev R n m (tCall (SpMd R.T K CP CS CR) [] E0 (tCons te tNil)) σ H (pP K R CP CS CR (sndF a b c s t h k' r) (rcvF a b c s' t' h' g' r')) :=
  ev_call (Ps := [dP K R (· = .tuple [szs a b c, tabs5 s t h k' r, tabs5 s' t' h' g' r'])]) (eva_cons he eva_nil) fun vs H1 x1 k1 r1 Q q => by
    obtain ⟨_, _, rfl, ⟨d, hd, rfl⟩, rfl⟩ := r1
    exact ⟨rfl, R, m, a, b, c, s, t, h, k', r, s', t', h', g', r', rfl, k1, .cons hd .nil, O1, O2, q⟩
end
theorem eqv_dat8 {a b c : Int} {s t h k r s' t' h' k' r' : List PyData} : PyData.eqvAll (dat8 a b c s t h k r) (dat8 a b c s' t' h' k' r') = PyData.eqv (tabs5 s t h k r) (tabs5 s' t' h' k' r') := by simp [PyData.eqvAll, PyData.eqv]
theorem eqv_raw {a b c : Int} {S S' G G' : PyData} : PyData.eqv (.tuple [szs a b c, S, G]) (.tuple [szs a b c, S', G']) = (PyData.eqv S S' && PyData.eqv G G') := by simp [PyData.eqvAll, PyData.eqv, szs]
end LW

set_option Elab.async false
set_option linter.all false
set_option maxRecDepth 100000
set_option maxHeartbeats 8000000
namespace LW
open PySem PySem.Spec PyProof.Rows L2 LamX NdefX WE WLam WQ
section
variable {P : Program} {w : World} {K : PySem.W.Frag} {mg : Str → Option Value} {base : Heap} {T : List (Addr × Str)} {CP CS CR fS fR fP : Addr}
abbrev ksP2 : List Str := ["receiver", "sender"]
theorem layS {a b c : Int} {s t h k r : List PyData} (O : OkS a b c s t h k r) : Lay 3 (tabs5 s t h k r) := lay_tup fun d hd => O.lay d (by simp only [List.mem_cons, List.mem_nil_iff, or_false] at hd ⊢; rcases hd with rfl | rfl | rfl | rfl | rfl <;> simp)
theorem layR {a b c : Int} {s t h k r : List PyData} (O : OkR a b c s t h k r) : Lay 3 (tabs5 s t h k r) := lay_tup fun d hd => O.lay d (by simp only [List.mem_cons, List.mem_nil_iff, or_false] at hd ⊢; rcases hd with rfl | rfl | rfl | rfl | rfl <;> simp)
theorem layZ {a b c : Int} : Lay 3 (szs a b c) := (lay_tup (k := 0) fun d hd => by
  simp only [List.mem_cons, List.mem_nil_iff, or_false] at hd
  rcases hd with rfl | rfl | rfl <;> exact lay_int).mono (by decide)
theorem lay2 {d e : PyData} (h1 : Lay 3 d) (h2 : Lay 3 e) : Lay 6 (.tuple [d, e]) := (lay_tup (k := 3) fun x hx => by
  simp only [List.mem_cons, List.mem_nil_iff, or_false] at hx
  rcases hx with rfl | rfl <;> assumption).mono (by decide)
theorem lay3 {d e f : PyData} (h1 : Lay 3 d) (h2 : Lay 3 e) (h3 : Lay 3 f) : Lay 6 (.tuple [d, e, f]) := (lay_tup (k := 3) fun x hx => by
  simp only [List.mem_cons, List.mem_nil_iff, or_false] at hx
  rcases hx with rfl | rfl | rfl <;> assumption).mono (by decide)
theorem immS {a b c : Int} {s t h k r : List PyData} (O : OkS a b c s t h k r) : imm (tabs5 s t h k r) = true := by
  simp [imm, immAll, immAll_mem fun d hd => imm_nonBelow (O.s_ d hd), immAll_mem fun d hd => imm_below (O.t_ d hd), immAll_mem fun d hd => imm_states (O.h_ d hd).1, immAll_mem fun d hd => imm_take (O.k_ d hd).1, immAll_mem fun d hd => imm_below (O.r_ d hd)]
theorem immR {a b c : Int} {s t h k r : List PyData} (O : OkR a b c s t h k r) : imm (tabs5 s t h k r) = true := by
  simp [imm, immAll, immAll_mem fun d hd => imm_nonBelow (O.s_ d hd), immAll_mem fun d hd => imm_below (O.t_ d hd), immAll_mem fun d hd => imm_states (O.h_ d hd).1, immAll_mem fun d hd => imm_gifts (O.g_ d hd).1, immAll_mem fun d hd => imm_below (O.r_ d hd)]
theorem immZ {a b c : Int} : imm (szs a b c) = true := rfl
theorem imm2 {d e : PyData} (h1 : imm d = true) (h2 : imm e = true) : imm (.tuple [d, e]) = true := by simp [imm, immAll, h1, h2]
theorem evt_ne {R : Rs} {σ : L2.St} {H : Hp} {n m k : Nat} {ta tb : TE} {d e : PyData} (ha : Ev R n k ta σ H (dP K R (· = d))) (hb : Ev R k m tb σ H (dP K R (· = e))) (hd : Lay 6 d) (he : Lay 6 e) (h : PyData.eqv d e = true) : EvT R n m (tTest (tOp (rNeD K) ta tb)) σ H (· = false) :=
  evt_test ((ev_neL ha hb hd he).imp fun v H' _ ⟨b, e, e2⟩ => ⟨b, e, by rw [e2, h]; rfl⟩)
theorem lay_bool {k : Nat} {b : Bool} : Lay k (.bool b) := ⟨by unfold PyData.canLay0; rfl, by unfold PyData.depth; exact Nat.zero_le _⟩
theorem dP_ty {R : Rs} {ds : List PyData} : ∀ v H', (dP K R (· = .tuple ds)).r v H' → TyX K H' v (.type "tuple") := fun v H' ⟨d, hd, e⟩ => by
  subst e
  exact hd.ty
end
end LW

set_option Elab.async false
set_option linter.all false
set_option maxRecDepth 100000
set_option maxHeartbeats 8000000
namespace LW
open PySem PySem.Spec PyProof.Rows L2 LamX NdefX WE WLam WQ
/-- tables alone -/
def RT (T : List (Addr × Str)) : Rs := ⟨T, fun _ => False, fun _ _ => True, fun _ _ _ _ _ => trivial, fun _ _ _ _ _ => trivial⟩
section
variable {K : PySem.W.Frag} {T : List (Addr × Str)} {H H0 H1 H2 H' : Hp} {p : Addr} {n m k : Nat}
theorem Ok.toP (k : Ok (RT T) m H) (h : PurseAt p n H) : Ok (RP T p) n H := ⟨k.tab, fun b e => by
  obtain ⟨x, y, z, g, _⟩ := h
  subst e
  exact ⟨_, g, .inl ⟨_, rfl⟩⟩, h⟩
theorem Ok.ofP (k : Ok (RP T p) n H) : Ok (RT T) m H := ⟨k.tab, fun b e => e.elim, trivial⟩
theorem Xt.ofP (x : Xt (RT T) H0 H) (h0 : H0 p = none) (x2 : Xt (RP T p) H H') : Xt (RT T) H0 H' := by
  refine ⟨fun b o e _ ht => x2.keep b o (x.keep b o e (fun z => z) ht) (fun z => ?_) ht, fun b xs e => x2.tup b xs (x.tup b xs e), fun b o u e => x2.frz b o u (x.frz b o u e), fun b e => x.mon b (x2.mon b e)⟩
  have z : b = p := z
  subst z
  rw [h0] at e
  cases e
theorem Xt.toT {R : Rs} (x : Xt R H H') (hm : ∀ b, ¬ R.M b) : Xt (RT T) H H' := ⟨fun b o e _ ht => x.keep b o e (hm b) ht, x.tup, x.frz, x.mon⟩
theorem Ok.toT {R : Rs} (k : Ok R n H) (e : R.T = T) : Ok (RT T) m H := ⟨e ▸ k.tab, fun b e => e.elim, trivial⟩
end
section
variable {K : PySem.W.Frag} {R : Rs} {σ : L2.St} {H H' H0 : Hp} {n m k : Nat} {ta tb te : TE} {tl : TA} {D : Ends} {tz tu : TS} {g : TG} {pi qi : Int → Prop} {P : Rp R} {Ps : List (Rp R)}
theorem ev_min2 (ha : Ev R n k ta σ H (iP R pi)) (hb : Ev R k m tb σ H (iP R qi)) : Ev R n m (tCB (fun xs H Q => ∃ i j, xs = [.int i, .int j] ∧ Q (.int (if j < i then j else i)) H) (tCons ta (tCons tb tNil))) σ H (iP R fun z => ∃ i j, pi i ∧ qi j ∧ z = if j < i then j else i) := fun H1 x k Q z =>
  ha H1 x k _ fun v H2 x2 k2 ⟨i, e, hi⟩ => hb H2 (x.trans x2) k2 _ fun u H3 x3 k3 ⟨j, e2, hj⟩ => ⟨i, j, by rw [e, e2], z _ H3 (x2.trans x3) k3 ⟨_, rfl, i, j, hi, hj, rfl⟩⟩
theorem s_rng (k : Ok R n H) (h : Ev R n m ta σ H (iP R pi)) (hp : ∀ i, pi i → 0 ≤ i ∧ i ≤ 100000)
    (z : ∀ (i : Int) (H1 : Hp), pi i → Xt R H H1 → Ok R m H1 → ∃ Pv : Nat → L2.St → Hp → Prop, Pv 0 σ H1 ∧
      (∀ (j : Nat) (σ' : L2.St) (H' : Hp), j < i.toNat → Pv j σ' H' → g (.int (j : Int)) σ' H' fun σ2 H2 => tu { D with nx := Pv (j + 1), ct := Pv (j + 1), bk := D.nx } σ2 H2) ∧
      ∀ σ' H', Pv i.toNat σ' H' → D.nx σ' H') : tFor (iRng1 (tCons ta tNil)) g tu D σ H :=
  show tSeq (tFor (iRng1 (tCons ta tNil)) g tu) (fun D σ H => D.nx σ H) D σ H from q_rng k h hp z
/-- a tuple of things -/
def tR (R : Rs) (Ps : List (Rp R)) : Rp R := ⟨fun v H => ∃ a xs, v = .ref a ∧ H a = some (.tup xs) ∧ AllR Ps xs H, fun _ _ _ x ⟨a, xs, e, h, r⟩ => ⟨a, xs, e, x.tup a _ h, r.mono x⟩⟩
theorem ev_tR (h : EvA R n m tl σ H Ps) (hl : Ps.length ≤ 1000) : Ev R n m (tTup tl) σ H (tR R Ps) := ev_tup h hl fun p vs H1 _ hp r => ⟨p, vs, rfl, hp, r⟩
/-- xs.append(e), at D a list that H0 had not -/
theorem s_appR {i : Nat} {Da : Addr} {acc : List V} {C : Addr} {F : List (Str × PyData)} (kk : Ok R n H) (hi : σ[i]? = some (some (.ref Da))) (h0 : H0 Da = none) (nD : ¬ R.M Da) (x0 : Xt R H0 H) (hD : H Da = some (.lst acc)) (hl : acc.length ≤ 1000) (h : Ev R n m te σ H (oP K R C F))
    (q : ∀ x H', Ok R m H' → Xt R H0 H' → H' Da = some (.lst (acc ++ [.ref x])) → ¬ R.M x → InsD K C H' x F → (∀ {C' y F'}, ¬ R.M y → InsD K C' H y F' → InsD K C' H' y F') → D.nx σ H') : tDrop (tBM K "list" rAppend (tVar i) (tCons te tNil)) D σ H := by
  refine ⟨_, hi, .inl ⟨rfl, _, .of hD⟩, ?_⟩
  refine h H (.refl _) kk _ fun v H2 x2 k2 ⟨x, e, nx, hI⟩ => ?_
  subst e
  have h3 : H2 Da = some (.lst acc) := x2.keep Da _ hD nD (fun _ z => nomatch z)
  have t : Tx H2 (upd H2 Da (.lst (acc ++ [.ref x]))) := .lst h3
  have go : ∀ {C' y F'}, InsD K C' H2 y F' → InsD K C' (upd H2 Da (.lst (acc ++ [.ref x]))) y F' := fun {C' y F'} ⟨dx, fs, g1, g2⟩ => ⟨dx, fs, by rw [upd_ne (ne_of g1 h3 (fun z => nomatch z))]; exact g1, g2.tx t⟩
  refine ⟨Da, acc, .ref x, rfl, rfl, h3, Nat.lt_of_lt_of_le (by omega) (show 2000 ≤ sizeLine by decide), ?_⟩
  exact q x _ (ok_lst k2 h3 nD) ((x0.trans x2).own h0) upd_same nx (go hI) fun ny hy => go (hy.mono2 ny x2)
theorem q_appR {i : Nat} {Da : Addr} {acc : List V} {C : Addr} {F : List (Str × PyData)} (kk : Ok R n H) (hi : σ[i]? = some (some (.ref Da))) (h0 : H0 Da = none) (nD : ¬ R.M Da) (x0 : Xt R H0 H) (hD : H Da = some (.lst acc)) (hl : acc.length ≤ 1000) (h : Ev R n m te σ H (oP K R C F))
    (q : ∀ x H', Ok R m H' → Xt R H0 H' → H' Da = some (.lst (acc ++ [.ref x])) → ¬ R.M x → InsD K C H' x F → (∀ {C' y F'}, ¬ R.M y → InsD K C' H y F' → InsD K C' H' y F') → tz D σ H') : tSeq (tDrop (tBM K "list" rAppend (tVar i) (tCons te tNil))) tz D σ H := s_appR (D := { D with nx := tz D }) kk hi h0 nD x0 hD hl h q
/-- xs = [e] -/
theorem q_one {i : Nat} {C : Addr} {F : List (Str × PyData)} (kk : Ok R n H) (h : Ev R n m te σ H (oP K R C F)) (q : ∀ x Da H1 H', Xt R H H1 → H1 Da = none → ¬ R.M Da → Ok R m H' → Xt R H1 H' → H' Da = some (.lst [.ref x]) → ¬ R.M x → InsD K C H' x F → tz D (σ.set i (some (.ref Da))) H') :
    tSeq (tAsg (tLst (tCons te tNil)) (gName i)) tz D σ H :=
  h H (.refl _) kk _ fun v H2 x2 k2 ⟨x, e, nx, hI⟩ => by
    subst e
    refine ⟨by show 1 ≤ sizeLine; decide, fun p hp => ?_⟩
    have xn : Xt R H2 (upd H2 p (.lst [.ref x])) := .new hp
    exact q x p H2 _ x2 hp (k2.fresh hp) (k2.new hp) xn upd_same nx (hI.mono2 nx xn)
/-- the way of == in index: the same thing, or an own == -/
abbrev rIdx (T : List (Addr × Str)) (K : PySem.W.Frag) (C : Addr) (f7 : Str) : R2 := fun x y H Q => rSame x y H Q ∨ rOwnB K C (SpE8 T K C f7) E0 x y H Q
theorem r_ne8 {f7 : Str} {C : Addr} {F F' : List (Str × PyData)} {ds es : List PyData} {x y : Addr} {Q : VK} (I : ClsI K C) (ne : x ≠ y) (k : Ok R m H) (nx : ¬ R.M x) (ny : ¬ R.M y) (hx : InsD K C H x F) (hy : InsD K C H y F') (h1 : Is8 f7 F ds) (h2 : Is8 f7 F' es) (l1 : ∀ d ∈ ds, Lay 2 d) (l2 : ∀ e ∈ es, Lay 2 e) (q : ∀ H', Xt R H H' → Ok R m H' → Q (.bl (PyData.eqvAll ds es)) H') :
    rOwnB K C (SpE8 R.T K C f7) E0 (.ref x) (.ref y) H Q := by
  obtain ⟨dx, fs, g1, g2⟩ := id hx
  obtain ⟨dy, gs, g3, g4⟩ := id hy
  exact ⟨fun e => ne (by cases e; rfl), x, dx, fs, .ref C, rfl, g1, ty_ins I g3, nf_self, rfl, R, m, x, _, F, ds, rfl, rfl, k, nx, hx, h1, l1, .inl ⟨y, F', es, rfl, ny, hy, h2, l2, fun H' x' k' => ⟨_, rfl, q H' x' k'⟩⟩⟩
/-- three programs that are unlike, in a list: each is found at its place -/
structure Three (K : PySem.W.Frag) (R : Rs) (C Da x1 x2 x3 : Addr) (F1 F2 F3 : List (Str × PyData)) (H : Hp) : Prop where
  nD : ¬ R.M Da
  at_ : H Da = some (.lst [.ref x1, .ref x2, .ref x3])
  n1 : ¬ R.M x1
  n2 : ¬ R.M x2
  n3 : ¬ R.M x3
  i1 : InsD K C H x1 F1
  i2 : InsD K C H x2 F2
  i3 : InsD K C H x3 F3
theorem Three.go {C Da x1 x2 x3 : Addr} {F1 F2 F3 : List (Str × PyData)} (h : Three K R C Da x1 x2 x3 F1 F2 F3 H) (x : Xt R H H') : Three K R C Da x1 x2 x3 F1 F2 F3 H' := ⟨h.nD, x.keep Da _ h.at_ h.nD (fun _ z => nomatch z), h.n1, h.n2, h.n3, h.i1.mono2 h.n1 x, h.i2.mono2 h.n2 x, h.i3.mono2 h.n3 x⟩
theorem chain3 {f7 : Str} {C Da x1 x2 x3 : Addr} {F1 F2 F3 : List (Str × PyData)} {d1 d2 d3 : List PyData} (I : ClsI K C) (h : Three K R C Da x1 x2 x3 F1 F2 F3 H) (k : Ok R m H) (g1 : Is8 f7 F1 d1) (g2 : Is8 f7 F2 d2) (g3 : Is8 f7 F3 d3) (l1 : ∀ d ∈ d1, Lay 2 d) (l2 : ∀ d ∈ d2, Lay 2 d) (l3 : ∀ d ∈ d3, Lay 2 d)
    (e12 : PyData.eqvAll d1 d2 = false) (e13 : PyData.eqvAll d1 d3 = false) (e23 : PyData.eqvAll d2 d3 = false) (h12 : x1 ≠ x2) (h13 : x1 ≠ x3) (h23 : x2 ≠ x3) {i : Nat} {v : V} (hv : ([V.ref x1, V.ref x2, V.ref x3] : List V)[i]? = some v) {Q : VK} (q : ∀ H', Xt R H H' → Ok R m H' → Q (.int (i : Nat)) H') :
    ChainI (rIdx R.T K C f7) Da v [.ref x1, .ref x2, .ref x3] 0 [.ref x1, .ref x2, .ref x3] H Q := by
  match i, hv with
  | 0, hv =>
    cases (Option.some.inj hv)
    exact .inl ⟨x1, rfl, rfl, true, rfl, (fun _ => q H (.refl _) k), (fun z => nomatch z)⟩
  | 1, hv =>
    cases (Option.some.inj hv)
    refine .inr (r_ne8 I h12 k h.n1 h.n2 h.i1 h.i2 g1 g2 l1 l2 fun H2 x2' k2 => ⟨_, rfl, (fun z => ?_), (fun _ => ⟨(h.go x2').at_, ?_⟩)⟩)
    · rw [e12] at z
      cases z
    · exact .inl ⟨x2, rfl, rfl, true, rfl, (fun _ => q H2 x2' k2), (fun z => nomatch z)⟩
  | 2, hv =>
    cases (Option.some.inj hv)
    refine .inr (r_ne8 I h13 k h.n1 h.n3 h.i1 h.i3 g1 g3 l1 l3 fun H2 x2' k2 => ⟨_, rfl, (fun z => ?_), (fun _ => ⟨(h.go x2').at_, ?_⟩)⟩)
    · rw [e13] at z
      cases z
    have t2 := h.go x2'
    refine .inr (r_ne8 I h23 k2 t2.n2 t2.n3 t2.i2 t2.i3 g2 g3 l2 l3 fun H3 x3' k3 => ⟨_, rfl, (fun z => ?_), (fun _ => ⟨(t2.go x3').at_, ?_⟩)⟩)
    · rw [e23] at z
      cases z
    · exact .inl ⟨x3, rfl, rfl, true, rfl, (fun _ => q H3 (x2'.trans x3') k3), (fun z => nomatch z)⟩
  | i + 3, hv => simp at hv
/-- [xs.index(x) for x in xs] -/
theorem ev_idx3 {f7 : Str} {C Da x1 x2 x3 : Addr} {F1 F2 F3 : List (Str × PyData)} {d1 d2 d3 : List PyData} (I : ClsI K C) (h : Three K R C Da x1 x2 x3 F1 F2 F3 H) (g1 : Is8 f7 F1 d1) (g2 : Is8 f7 F2 d2) (g3 : Is8 f7 F3 d3) (l1 : ∀ d ∈ d1, Lay 2 d) (l2 : ∀ d ∈ d2, Lay 2 d) (l3 : ∀ d ∈ d3, Lay 2 d)
    (e12 : PyData.eqvAll d1 d2 = false) (e13 : PyData.eqvAll d1 d3 = false) (e23 : PyData.eqvAll d2 d3 = false) (h12 : x1 ≠ x2) (h13 : x1 ≠ x3) (h23 : x2 ≠ x3) {i j : Nat} {vs : List Nat} (hi : σ[i]? = some (some (.ref Da)))
    (hw : ∀ x, wipe ((wipe σ vs).set j (some x)) vs = wipe σ vs) (hj : ∀ x, ((wipe σ vs).set j (some x))[j]? = some (some x)) (hiw : ∀ x, ((wipe σ vs).set j (some x))[i]? = some (some (.ref Da))) :
    Ev R m m (tLc (iList K (tVar i)) (gName j) tYes (tBM K "list" (fun o vs H Q => rIdxO (rIdx R.T K C f7) o vs H Q ∧ ∀ p xs, o = .ref p → H p = some (.lst xs) → xs.length ≤ 1000) (tVar i) (tCons (tVar j) tNil)) vs) σ H (dP K R (· = .list [.int 0, .int 1, .int 2])) := fun H1 x1' k1 Q q => by
  have t1 := h.go x1'
  refine ⟨_, hi, Da, rfl, ⟨_, .inl (.inl t1.at_)⟩, fun E hE => ?_⟩
  refine lc_ev (K := K) (m := m) (c := 0) (pe := fun i e => e = .int (i : Nat)) (walk_list (K := K) (a := Da) (xs := [.ref x1, .ref x2, .ref x3])) (fun i H x H' y => y.1) (fun H' x' => .inl (.inl (t1.go x').at_)) (by show 3 ≤ 100000; decide) hw (fun i e hh => by rw [hh]; rfl) (fun i v H2 H3 hlt x2' yy => ?_) (k1.mono (by simp)) hE fun v H2 x2' k2 ⟨a, xs, es, g0, gn, gh, gd, gl, gp⟩ => ?_
  · obtain ⟨rfl, hv⟩ := yy
    intro bq
    refine fun H4 x4 k4 Q q => ⟨_, hiw v, .inl ⟨rfl, _, .inl (.inl ((t1.go x2').go x4).at_)⟩, _, hj v, ?_⟩
    have t4 := (t1.go x2').go x4
    refine ⟨⟨Da, v, _, rfl, rfl, t4.at_, chain3 I t4 k4 g1 g2 g3 l1 l2 l3 e12 e13 e23 h12 h13 h23 hv fun H5 x5 k5 => q _ H5 x5 k5 ⟨_, .int _, rfl⟩⟩, fun p xs e hp => ?_⟩
    cases e
    rw [t4.at_] at hp
    cases hp
    show 3 ≤ 1000
    decide
  · subst g0
    refine q _ H2 x2' k2 ⟨_, .lst (.inl (.inl gh)) gn gd, ?_⟩
    match es, gl with
    | [y1, y2, y3], _ =>
      have a1 := gp 0 y1 rfl
      have a2 := gp 1 y2 rfl
      have a3 := gp 2 y3 rfl
      rw [a1, a2, a3]
      rfl
end
end LW

set_option Elab.async false
set_option linter.all false
set_option maxRecDepth 100000
set_option maxHeartbeats 8000000
namespace LW
open PySem PySem.Spec PyProof.Rows L2 LamX NdefX WE WLam WQ
section
variable {P : Program} {w : World} {K : PySem.W.Frag} {mg : Str → Option Value} {base : Heap} {T : List (Addr × Str)} {CP CS CR fS fR fP : Addr}
def SpLaw (T : List (Addr × Str)) (K : PySem.W.Frag) : Sp := fun vs H Q _ => ∃ (a : Addr) (ns : List Int), vs = [.ref a] ∧ SqL K H a (ns.map V.int) ∧ ns.length ≤ 63 ∧ Tabs T H ∧ ∀ H', Q (.bl true) H'
theorem dq_ints {H : Hp} {M : Addr → Prop} : ∀ {ns : List Int}, DqAll K M H (ns.map V.int) (ns.map PyData.int)
  | [] => .nil
  | n :: ns => .cons (.int n) dq_ints
/-- the three receivers -/
abbrev rc3 (a c : Int) : List (Str × PyData) := rcvF a 1 c [.int 0] [.int 0] [.tuple [.int 0]] [.tuple [.int 0]] [.int 0]
theorem ok3 {a c : Int} (h : (a = 1 ∨ a = 2) ∧ (c = 1 ∨ c = 2)) : OkR a 1 c [.int 0] [.int 0] [.tuple [.int 0]] [.tuple [.int 0]] [.int 0] := by
  have z : RawR a 1 c (tabs5 [.int 0] [.int 0] [.tuple [.int 0]] [.tuple [.int 0]] [.int 0]) := by
    obtain ⟨h1, h2⟩ := h
    rcases h1 with rfl | rfl <;> rcases h2 with rfl | rfl <;> exact okR_of (by decide +kernel)
  obtain ⟨s, t, h, g, r, e, O, _⟩ := z
  cases e
  exact O
theorem ev_rc3 {R : Rs} {σ : L2.St} {H : Hp} {m : Nat} {a c : Int} (h : (a = 1 ∨ a = 2) ∧ (c = 1 ∨ c = 2)) : Ev R m m (tMakeK CR 3 5 (SpRI R.T K CR) (fun vs zs => vs ++ zs) E0 (tCons (tC (.int a)) (tCons (tC (.int 1)) (tCons (tC (.int c)) tNil)))
    (tCons (tLst (tCons (tC (.int 0)) tNil)) (tCons (tLst (tCons (tC (.int 0)) tNil)) (tCons (tLst (tCons (tTup (tCons (tC (.int 0)) tNil)) tNil)) (tCons (tLst (tCons (tTup (tCons (tC (.int 0)) tNil)) tNil)) (tCons (tLst (tCons (tC (.int 0)) tNil)) tNil)))))) σ H (oP K R CR (rc3 a c)) :=
  ev_mkR (d1 := .list [.int 0]) (d2 := .list [.int 0]) (d3 := .list [.tuple [.int 0]]) (d4 := .list [.tuple [.int 0]]) (d5 := .list [.int 0]) (eva_d ev_di (eva_d ev_di (eva_d ev_di eva_nil)))
    (eva_d (ev_lstK [.int 0] (eva_d ev_di eva_nil) (by show 1 ≤ 1000; decide)) (eva_d (ev_lstK [.int 0] (eva_d ev_di eva_nil) (by show 1 ≤ 1000; decide)) (eva_d (ev_lstK [.tuple [.int 0]] (eva_d (ev_tupK [.int 0] (eva_d ev_di eva_nil) (by show 1 ≤ 1000; decide)) eva_nil) (by show 1 ≤ 1000; decide)) (eva_d (ev_lstK [.tuple [.int 0]] (eva_d (ev_tupK [.int 0] (eva_d ev_di eva_nil) (by show 1 ≤ 1000; decide)) eva_nil) (by show 1 ≤ 1000; decide)) (eva_d (ev_lstK [.int 0] (eva_d ev_di eva_nil) (by show 1 ≤ 1000; decide)) eva_nil)))))
    (.inr rfl) (.inr rfl) (.inr rfl) (.inr rfl) (.inr rfl) (ok3 h)
section
variable {R : Rs} {σ : L2.St} {H : Hp} {n m k : Nat} {ta tb te : TE} {tl : TA} {D : Ends} {tz : TS}
theorem q_purse {v : V} {ns : List Int} {z : Int} (kk : Ok (RT T) m H) (h0 : σ[0]? = some (some v)) (hd : Dq K (RT T).M H v (.list (ns.map .int))) (h1 : σ[1]? = some (some (.int z))) (z0 : 0 ≤ z) (z1 : z ≤ 1000)
    (q : ∀ p H1 H', Xt (RT T) H H1 → H1 p = none → Xt (RT T) H1 H' → Ok (RT T) m H' → PurseAt p 900000000000 H' → tz D (σ.set 2 (some (.ref p))) H') : tSeq (tAsg (tCall (SpPu T K) [] E0 (tCons (tVar 0) (tCons (tVar 1) tNil))) (gName 2)) tz D σ H :=
  ⟨v, h0, .int z, h1, rfl, RT T, m, v, ns, z, rfl, rfl, kk, hd, z0, z1, q⟩
theorem ins_ne {H : Hp} {C x y : Addr} {F F' : List (Str × PyData)} {f : Str} {i j : Int} (hx : InsD K C H x F) (hy : InsD K C H y F') (h1 : (f, PyData.int i) ∈ F) (h2 : (f, PyData.int j) ∈ F') (ne : i ≠ j) : x ≠ y := fun e => by
  subst e
  obtain ⟨dx, fs, g1, g2⟩ := hx
  obtain ⟨dy, gs, g3, g4⟩ := hy
  rw [g1] at g3
  cases g3
  obtain ⟨v, l1, l2, _⟩ := g2 _ h1
  obtain ⟨u, l3, l4, _⟩ := g4 _ h2
  have e1 : v = u := by
    have := l1.symm.trans l3
    exact Option.some.inj this
  have e2 := dq_int l2
  have e3 := dq_int l4
  rw [e2, e3] at e1
  exact ne (by injection e1)
theorem q_par {i j : Nat} {P1 P2 : Rp R} (kk : Ok R n H) (h : EvA R n m tl σ H [P1, P2]) (q : ∀ v w H1, Xt R H H1 → Ok R m H1 → P1.r v H1 → P2.r w H1 → tz D ((σ.set i (some v)).set j (some w)) H1) : tSeq (tPar i j tl) tz D σ H :=
  h H (.refl _) kk _ fun vs H1 x1 k1 r => by
    obtain ⟨v, _, rfl, hv, w', _, rfl, hw, rfl⟩ := r
    exact ⟨v, w', rfl, q v w' H1 x1 k1 hv hw⟩
theorem reps1 : repsD 1 = .tuple [szs 1 1 1, tabs5 [.none, .int 0] [.int 0, .int 1] [.tuple [.int 0], .tuple [.int 0]] [.tuple [.int 1], .none] [.int 0, .int 0], tabs5 [.int 0] [.int 0] [.tuple [.int 0]] [.tuple [.int 0]] [.int 0]] := by rfl
theorem turns1 : turnsD true = .tuple [szs 1 2 2, tabs5 [.none, .int 0, .none, .int 1] [.int 0, .int 1, .int 2, .int 3] [.tuple [.int 0, .int 0], .tuple [.int 2, .int 1], .tuple [.int 2, .int 2], .tuple [.int 3, .int 0]] [.tuple [.int 1], .none, .tuple [.int 3], .none] [.int 0, .int 0, .int 2, .int 2], tabs5 [.int 1, .int 0] [.int 0, .int 1] [.tuple [.int 1, .int 0], .tuple [.int 1, .int 0]] [.tuple [.int 0, .none], .tuple [.none, .int 0]] [.int 0, .int 1]] := by rfl
theorem ev_repE : Ev R m m (tCall (SpLP R.T K) [] E0 (tCons (tC (.int 1)) tNil)) σ H (dP K R (· = repsD 1)) :=
  (ev_callD (ps := [(· = .int 1)]) (eva_d ev_di eva_nil) rfl fun ds h => by
    obtain ⟨_, _, rfl, rfl, rfl⟩ := h
    exact ⟨1, rfl, by decide, by decide⟩).imp fun v H' _ ⟨d, hd, ds, h, n, e, e2⟩ => ⟨d, hd, by
      obtain ⟨_, _, rfl, rfl, rfl⟩ := h
      cases e
      exact e2⟩
theorem ev_tuE {b : Bool} : Ev R m m (tCall (SpLT R.T K) [] E0 (tCons (tC (.bl b)) tNil)) σ H (dP K R (· = turnsD b)) :=
  (ev_callD (ps := [(· = .bool b)]) (eva_d ev_db eva_nil) rfl fun ds h => by
    obtain ⟨_, _, rfl, rfl, rfl⟩ := h
    exact ⟨b, rfl⟩).imp fun v H' _ ⟨d, hd, ds, h, n, e, e2⟩ => ⟨d, hd, by
      obtain ⟨_, _, rfl, rfl, rfl⟩ := h
      cases e
      exact e2⟩
theorem ev_msE {te1 te2 : TE} {a b c : Int} {s t h k' r : List PyData} (h1 : Ev R n k te1 σ H (dP K R (· = szs a b c))) (h2 : Ev R k m te2 σ H (dP K R (· = tabs5 s t h k' r))) (O : OkS a b c s t h k' r) :
    Ev R n m (tCall (SpMS R.T K CS) [] E0 (tCons te1 (tCons te2 tNil))) σ H (oP K R CS (sndF a b c s t h k' r)) :=
  ev_call (Ps := [(· = szs a b c), (· = tabs5 s t h k' r)].map (dP K R)) (eva_d h1 (eva_d h2 eva_nil)) fun vs H1 x1 k1 r1 Q q => by
    obtain ⟨ds, g1, ⟨_, _, rfl, rfl, _, _, rfl, rfl, rfl⟩, g3⟩ := allR_D r1
    exact ⟨g3, R, m, a, b, c, s, t, h, k', r, rfl, k1, g1, O, q⟩
theorem ev_ne8 {C : Addr} {f7 : Str} {F F' : List (Str × PyData)} {ds es : List PyData} (I : ClsI K C) (ha : Ev R n k ta σ H (oP K R C F)) (hb : Ev R k m tb σ H (oP K R C F')) (h1 : Is8 f7 F ds) (h2 : Is8 f7 F' es) (l1 : ∀ d ∈ ds, Lay 2 d) (l2 : ∀ e ∈ es, Lay 2 e) :
    Ev R n m (tOp (rOwnN K C (SpE8 R.T K C f7) E0) ta tb) σ H (bP R (· = !PyData.eqvAll ds es)) :=
  ev_op ha hb fun x y H1 _ k ⟨a, e1, na, hA⟩ ⟨b, e2, nb, hB⟩ Q q => by
    subst e1 e2
    obtain ⟨dx, fs, g1, g2⟩ := id hA
    obtain ⟨dy, gs, g3, g4⟩ := id hB
    exact ⟨a, dx, fs, .ref C, rfl, g1, ty_ins I g3, nf_self, rfl, R, _, a, _, F, ds, rfl, rfl, k, na, hA, h1, l1, .inl ⟨b, F', es, rfl, nb, hB, h2, l2, fun H' x' k' => ⟨_, rfl, q _ H' x' k' ⟨_, rfl, rfl⟩⟩⟩⟩
theorem ev_isB {b c : Bool} (h : Ev R n m ta σ H (bP R (· = b))) : Ev R n m (tOp (fun x y H Q => ∃ a b, x = .bl a ∧ y = .bl b ∧ Q (.bl (decide (a = b))) H) ta (tC (.bl c))) σ H (bP R (· = decide (b = c))) := fun H1 x1 k1 Q q =>
  h H1 x1 k1 _ fun v H2 x2 k2 ⟨b1, e1, e2⟩ => by
    subst e1 e2
    exact ⟨_, _, rfl, rfl, q _ H2 x2 k2 ⟨_, rfl, rfl⟩⟩
end
theorem fn_ofF {st : Stmt} {x : Str} {N ps : List Str} {k : Nat} {sp : Sp} {f : Addr} {fd : FuncData} (F : FunD K x x (defArgs st) (defBody st) (defScope st) [] [] f fd) (S : FnScope N ps (defScope st))
    (len : ∀ vs H Q E, sp vs H Q E → vs.length = ps.length)
    (hbody : ∀ (cdv : Value) (A : Around) (outer : List Env) (s : Shared) (H : Hp) (vs : List V) (Q : VK) (E : XK), Room k (A.deeper (envOfC x (defScope st) s.heap.objs.size f cdv)) → sp vs H Q E →
      ∃ t, PSs (cxOf CX0 P w K mg base N x (defScope st) f cdv A outer s H E).nox (defBody st) t ∧ t { nx := fun _ H' => Q .non H', rt := Q } (L2.start N vs) H) : FnOk P w K mg base CX0 (k + 1) f fd ps sp :=
  F.ok S len fun cdv A outer s H vs Q E hr hsp => by
    obtain ⟨t, h, q⟩ := hbody cdv A outer s H vs Q E hr hsp
    exact ⟨t, h.nox, q⟩
end
end LW

set_option Elab.async false
set_option linter.all false
set_option maxRecDepth 100000
set_option maxHeartbeats 4000000
namespace LW
open PySem PySem.Spec PyProof.Rows L2 LamX NdefX WE WLam WQ
/-! ### looks of one's own -/
section
variable {K : PySem.W.Frag} {C D : Str}
theorem propB_ok {f : Str} (h : WH.propB C f K = true) : PropOf K (He.ga K C) f (He.ma K (He.ga K C) f) (WH.pget C f K) := by
  obtain ⟨h1, h⟩ := He.ba h
  obtain ⟨h2, h⟩ := He.ba h
  obtain ⟨h3, h4⟩ := He.ba h
  refine ⟨He.eqO_ok h1, He.eqO_ok h2, of_decide_eq_true h3, ?_⟩
  unfold WH.pget
  split at h4
  · rename_i g rest e
    rw [e]
    exact ⟨rest, rfl⟩
  · cases h4
theorem clsIB_ok (c : Cls K (He.ga K C)) (h : clsIB C K = true) : ClsI K (He.ga K C) := by
  obtain ⟨h1, h⟩ := He.ba h
  obtain ⟨h2, h⟩ := He.ba h
  obtain ⟨h3, h4⟩ := He.ba h
  exact ⟨c, He.eqO_ok h1, He.eqO_ok h2, of_decide_eq_true h3, of_decide_eq_true h4⟩
theorem neB_ok (h : neB C K = true) : NeObj K (He.ga K C) := by
  obtain ⟨h1, h2⟩ := He.ba h
  exact ⟨He.eqO_ok h1, of_decide_eq_true h2⟩
theorem awayB_ok (h : awayB C K = true) : Away K (He.ga K C) := by
  obtain ⟨h1, h⟩ := He.ba h
  obtain ⟨h2, h3⟩ := He.ba h
  exact ⟨of_decide_eq_true h1, of_decide_eq_true h2, of_decide_eq_true h3⟩
theorem kitB_ok (h : kitLB C K = true) : ∀ t ∈ ["NoneType", "int", "str"], PySem.W.kitOne K (.type t) (.ref (He.ga K C)) = some false := by
  obtain ⟨h1, h⟩ := He.ba h
  obtain ⟨h2, h3⟩ := He.ba h
  intro t ht
  simp only [List.mem_cons, List.mem_nil_iff, or_false] at ht
  rcases ht with rfl | rfl | rfl
  · exact of_decide_eq_true h1
  · exact of_decide_eq_true h2
  · exact of_decide_eq_true h3
theorem distB_ok {tf : List He.Defn} (h : distB tf K = true) {p q : He.Defn} (hp : p ∈ tf) (hq : q ∈ tf) (e : (He.cT K p).2 = (He.cT K q).2) : p.1 = q.1 := by
  have h1 := List.all_eq_true.mp (List.all_eq_true.mp h p hp) q hq
  rcases Bool.or_eq_true_iff.mp h1 with z | z
  · exact of_decide_eq_true z
  · rw [decide_eq_true e] at z
    cases z
end
/-- the code tables of the defs that make lambdas -/
def tabsT (K : PySem.W.Frag) (tf : List He.Defn) : List (Addr × Str) := tf.map fun p => ((He.cT K p).2, p.1 ++ ".<locals>." ++ "<lambda>")
theorem defL_of {K : PySem.W.Frag} {mg : Str → Option Value} {base : Heap} {x : Str} {st : Stmt} {fd : FuncData} {tf : List He.Defn} (F : FunD K x x (defArgs st) (defBody st) (defScope st) [] [] (He.fAd K (x, none)) fd) (g : mg x = some (.ref (He.ga K x))) (hm : (x, none) ∈ tf) (hd : distB tf K = true) (TB : TabB base mg (He.cT K (x, none)).1 (He.cT K (x, none)).2) :
    DefL K mg base (tabsT K tf) x st (He.cT K (x, none)).1 (He.cT K (x, none)).2 := by
  have F' := F
  obtain ⟨oc, od, dV, kV, doc, pm, an, cdv, ct, osl, rfl, lk, hcd, _, _⟩ := F.ex
  obtain ⟨c, rfl⟩ := He.codeIn_ref hcd
  have e : He.codeOf K (x, none) = c := He.codeOf_eq lk rfl
  refine ⟨⟨_, _, F', g, ?_⟩, TB, List.mem_map.mpr ⟨_, hm, rfl⟩, fun p hp e2 => ?_⟩
  · show Value.ref c = .ref (He.codeOf K (x, none))
    rw [e]
  · obtain ⟨q, hq, rfl⟩ := List.mem_map.mp hp
    have := distB_ok hd hq hm e2
    show q.1 ++ ".<locals>." ++ "<lambda>" = _
    rw [this]
/-- a property of the text -/
structure DefP (K : PySem.W.Frag) (C : Addr) (x qual : Str) (st : Stmt) : Prop where
  ex : ∃ (p g : Addr) (fd : FuncData), PropOf K C x p g ∧ FunD K x qual (defArgs st) (defBody st) (defScope st) [] [] g fd

/-- what the head tells of the program -/
structure HdP (K : PySem.W.Frag) (mg : Str → Option Value) (base : Heap) (T : List (Addr × Str)) (CP CS CR iP iS iR fP fS fR : Addr) : Prop where
  b : Bl mg
  d_is_integer_from : Def1 K mg "is_integer_from" s_is_integer_from
  d_is_below : Def1 K mg "is_below" s_is_below
  d_is_none_or_below : Def1 K mg "is_none_or_below" s_is_none_or_below
  d_is_list : Def1 K mg "is_list" s_is_list
  d_check_number : Def1 K mg "check_number" s_check_number
  d_check_counts : Def1 K mg "check_counts" s_check_counts
  d_state_count : Def1 K mg "state_count" s_state_count
  d_checked_table : Def1 K mg "checked_table" s_checked_table
  d_are_states : Def1 K mg "are_states" s_are_states
  d_are_gifts : Def1 K mg "are_gifts" s_are_gifts
  d_counts : Def1 K mg "counts" s_counts
  d_check_pair : Def1 K mg "check_pair" s_check_pair
  l_message_table : ∃ c Pt, DefL K mg base T "message_table" s_message_table c Pt
  l_state_table : ∃ c Pt, DefL K mg base T "state_table" s_state_table c Pt
  l_hearing_table : ∃ c Pt, DefL K mg base T "hearing_table" s_hearing_table c Pt
  l_taking_table : ∃ c Pt, DefL K mg base T "taking_table" s_taking_table c Pt
  l_giving_table : ∃ c Pt, DefL K mg base T "giving_table" s_giving_table c Pt
  xS : ClsX K mg "Sender" CS iS ["_value_count", "_forward", "_backward", "_sends", "_ticks", "_hears", "_takes", "_crashes"]
  iS_ : DefM K "__init__" "Sender.__init__" s_Sender_init iS
  eS : DefM K "__eq__" "Sender.__eq__" s_Sender_eq fS
  mS : Meth K CS "__eq__" fS
  cS : ClsI K CS
  nS : NeObj K CS
  pS_value_count : DefP K CS "value_count" "Sender.value_count" s_Sender_value_count
  pS_forward : DefP K CS "forward" "Sender.forward" s_Sender_forward
  pS_backward : DefP K CS "backward" "Sender.backward" s_Sender_backward
  pS_sends : DefP K CS "sends" "Sender.sends" s_Sender_sends
  pS_ticks : DefP K CS "ticks" "Sender.ticks" s_Sender_ticks
  pS_hears : DefP K CS "hears" "Sender.hears" s_Sender_hears
  pS_takes : DefP K CS "takes" "Sender.takes" s_Sender_takes
  pS_crashes : DefP K CS "crashes" "Sender.crashes" s_Sender_crashes
  xR : ClsX K mg "Receiver" CR iR ["_value_count", "_forward", "_backward", "_sends", "_ticks", "_hears", "_gives", "_crashes"]
  iR_ : DefM K "__init__" "Receiver.__init__" s_Receiver_init iR
  eR : DefM K "__eq__" "Receiver.__eq__" s_Receiver_eq fR
  mR : Meth K CR "__eq__" fR
  cR : ClsI K CR
  nR : NeObj K CR
  pR_value_count : DefP K CR "value_count" "Receiver.value_count" s_Receiver_value_count
  pR_forward : DefP K CR "forward" "Receiver.forward" s_Receiver_forward
  pR_backward : DefP K CR "backward" "Receiver.backward" s_Receiver_backward
  pR_sends : DefP K CR "sends" "Receiver.sends" s_Receiver_sends
  pR_ticks : DefP K CR "ticks" "Receiver.ticks" s_Receiver_ticks
  pR_hears : DefP K CR "hears" "Receiver.hears" s_Receiver_hears
  pR_gives : DefP K CR "gives" "Receiver.gives" s_Receiver_gives
  pR_crashes : DefP K CR "crashes" "Receiver.crashes" s_Receiver_crashes
  xP : ClsX K mg "Pair" CP iP ["_sender", "_receiver"]
  iP_ : DefM K "__init__" "Pair.__init__" s_Pair_init iP
  eP : DefM K "__eq__" "Pair.__eq__" s_Pair_eq fP
  mP : Meth K CP "__eq__" fP
  cP : ClsI K CP
  nP : NeObj K CP
  pP_sender : DefP K CP "sender" "Pair.sender" s_Pair_sender
  pP_receiver : DefP K CP "receiver" "Pair.receiver" s_Pair_receiver
  ap : Apart K CP CS CR
/-- the program's contracts -/
structure Pg (P : Program) (w : World) (K : PySem.W.Frag) (mg : Str → Option Value) (base : Heap) (T : List (Addr × Str)) (CP CS CR fP fS fR : Addr) : Prop where
  b : Bl mg
  c5 : Tabs5 P w K mg base T
  isl : Cal P w K mg base CX0 1 "is_list" ["thing"] (SpIL T K)
  iif : Cal P w K mg base CX0 1 "is_integer_from" ["thing", "low"] (SpIIF T K)
  isb : Cal P w K mg base CX0 2 "is_below" ["thing", "limit"] (SpIB T K)
  mkS : MkC P w K mg base "Sender" CS ksS (SpSI T K CS)
  mkR : MkC P w K mg base "Receiver" CR ksR (SpRI T K CR)
  mkS8 : MkK P w K mg base "Sender" CS ksS8 (SpSI T K CS)
  mkR8 : MkK P w K mg base "Receiver" CR ksR8 (SpRI T K CR)
  mp : MkP P w K mg base T CP CS CR
  mkk : MkK P w K mg base "Pair" CP ksP2 (SpPI T K CP CS CR)
  nS : Prp8 P w K mg base CS "takes" "_takes"
  nR : Prp8 P w K mg base CR "gives" "_gives"
  np : PairC P w K mg base CP
  es : EqC P w K mg base 3 CS fS (SpE8 T K CS "_takes")
  er : EqC P w K mg base 3 CR fR (SpE8 T K CR "_gives")
  ep : EqC P w K mg base 4 CP fP (SpEP T K CP CS CR)
  ckp : Cal P w K mg base CX0 1 "check_pair" ["pair"] (SpCkP T K CP CS CR)
  ap : Apart K CP CS CR
  ne : NeObj K CP
  neS : NeObj K CS
  ms : mg "Sender" = some (.ref CS)
  mr : mg "Receiver" = some (.ref CR)
section
variable {P : Program} {w : World} {K : PySem.W.Frag} {mg : Str → Option Value} {base : Heap} {T : List (Addr × Str)} {CP CS CR iP iS iR fP fS fR : Addr}
theorem kbnAny {x qual : Str} {st : Stmt} {f : Addr} {fd : FuncData} {ps ks : List Str} {n : Nat} {g : List Value → List Value → List Value} {gV : List V → List V → List V} (F : FunD K x qual (defArgs st) (defBody st) (defScope st) [] [] f fd)
    (hrel : ∀ {vs : List V} {us : List Value} {zs : List V} {ws : List Value}, Vals vs us → Vals zs ws → Vals (gV vs zs) (g us ws))
    (h : ∀ (kV doc pm : Value) (an : Option Addr) (cdv ct : Value) (us ws : List Value), us.length = n → ws.length = ks.length → bindArgs (PySem.W.fnOf x qual (defArgs st) (defBody st) (defScope st) .none kV doc pm an cdv ct) ⟨us, ks.zip ws⟩ = pure (ps.zip (g us ws))) : KBn K fd ps n ks g gV := by
  obtain ⟨oc, od, dV, kV, doc, pm, an, cdv, ct, osl, rfl, lk, hcd, hdv, _⟩ := F.ex
  rcases hdv with ⟨_, e⟩ | ⟨e, _⟩
  · subst e
    exact ⟨fun s us ws _ l1 l2 => .of_eq (h kV doc pm an cdv ct us ws l1 l2), hrel⟩
  · exact absurd rfl e
theorem vals_rev : ∀ {zs : List V} {ws : List Value}, Vals zs ws → Vals zs.reverse ws.reverse
  | _, _, .nil => .nil
  | _, _, .cons a b => by
    rw [List.reverse_cons, List.reverse_cons]
    exact (vals_rev b).append (.cons a .nil)
theorem mk_senderK (D : DefM K "__init__" "Sender.__init__" s_Sender_init iS) (X : ClsX K mg "Sender" CS iS ["_value_count", "_forward", "_backward", "_sends", "_ticks", "_hears", "_takes", "_crashes"]) (C5 : Tabs5 P w K mg base T) : MkK P w K mg base "Sender" CS ksS8 (SpSI T K CS) := by
  obtain ⟨fd, F, h⟩ := ok_Sender_init D X C5
  exact ⟨iS, fd, X.mkr, X.mgC, h, kbnAny F (fun r1 r2 => r1.append (vals_rev r2)) fun _ _ _ _ _ _ us ws h1 h2 => match us, ws, h1, h2 with | [_], [_, _, _, _, _, _, _, _], _, _ => rfl⟩
theorem mk_receiverK (D : DefM K "__init__" "Receiver.__init__" s_Receiver_init iR) (X : ClsX K mg "Receiver" CR iR ["_value_count", "_forward", "_backward", "_sends", "_ticks", "_hears", "_gives", "_crashes"]) (C5 : Tabs5 P w K mg base T) : MkK P w K mg base "Receiver" CR ksR8 (SpRI T K CR) := by
  obtain ⟨fd, F, h⟩ := ok_Receiver_init D X C5
  exact ⟨iR, fd, X.mkr, X.mgC, h, kbnAny F (fun r1 r2 => r1.append (vals_rev r2)) fun _ _ _ _ _ _ us ws h1 h2 => match us, ws, h1, h2 with | [_], [_, _, _, _, _, _, _, _], _, _ => rfl⟩
theorem mk_pairK (D : DefM K "__init__" "Pair.__init__" s_Pair_init iP) (X : Fld2 K mg CP CS CR iP) (B : Bl mg) (NS : Cnt3 P w K mg base CS) (NR : Cnt3 P w K mg base CR) (C1 : Cal P w K mg base CX0 3 "counts" ["program"] (SpCnt P w T K mg base)) : MkK P w K mg base "Pair" CP ksP2 (SpPI T K CP CS CR) := by
  obtain ⟨fd, F, h⟩ := ok_Pair_init D X B NS NR C1
  exact ⟨iP, fd, X.cp.mkr, X.cp.mgC, h.mono (by decide), kbnAny F (fun r1 r2 => r1.append (vals_rev r2)) fun _ _ _ _ _ _ us ws h1 h2 => match us, ws, h1, h2 with | [_], [_, _], _, _ => rfl⟩
theorem sc_Sender_value_count : FnScope ["self"] ["self"] (defScope s_Sender_value_count) := ⟨rfl, rfl, rfl, by decide +kernel, rfl, by decide +kernel, by decide +kernel⟩
theorem prp_Sender_value_count (D : DefP K CS "value_count" "Sender.value_count" s_Sender_value_count) (c : Cls K CS) (n : NoAttr K CS "_value_count") : Prp P w K mg base CS "value_count" "_value_count" := by
  obtain ⟨p, g, fd, hp, F⟩ := D.ex
  exact prp_of hp F sc_Sender_value_count rfl rfl (fun _ _ _ _ _ _ us hl => match us, hl with | [_], _ => rfl) c n
theorem sc_Sender_forward : FnScope ["self"] ["self"] (defScope s_Sender_forward) := ⟨rfl, rfl, rfl, by decide +kernel, rfl, by decide +kernel, by decide +kernel⟩
theorem prp_Sender_forward (D : DefP K CS "forward" "Sender.forward" s_Sender_forward) (c : Cls K CS) (n : NoAttr K CS "_forward") : Prp P w K mg base CS "forward" "_forward" := by
  obtain ⟨p, g, fd, hp, F⟩ := D.ex
  exact prp_of hp F sc_Sender_forward rfl rfl (fun _ _ _ _ _ _ us hl => match us, hl with | [_], _ => rfl) c n
theorem sc_Sender_backward : FnScope ["self"] ["self"] (defScope s_Sender_backward) := ⟨rfl, rfl, rfl, by decide +kernel, rfl, by decide +kernel, by decide +kernel⟩
theorem prp_Sender_backward (D : DefP K CS "backward" "Sender.backward" s_Sender_backward) (c : Cls K CS) (n : NoAttr K CS "_backward") : Prp P w K mg base CS "backward" "_backward" := by
  obtain ⟨p, g, fd, hp, F⟩ := D.ex
  exact prp_of hp F sc_Sender_backward rfl rfl (fun _ _ _ _ _ _ us hl => match us, hl with | [_], _ => rfl) c n
theorem sc_Sender_sends : FnScope ["self"] ["self"] (defScope s_Sender_sends) := ⟨rfl, rfl, rfl, by decide +kernel, rfl, by decide +kernel, by decide +kernel⟩
theorem prp_Sender_sends (D : DefP K CS "sends" "Sender.sends" s_Sender_sends) (c : Cls K CS) (n : NoAttr K CS "_sends") : Prp P w K mg base CS "sends" "_sends" := by
  obtain ⟨p, g, fd, hp, F⟩ := D.ex
  exact prp_of hp F sc_Sender_sends rfl rfl (fun _ _ _ _ _ _ us hl => match us, hl with | [_], _ => rfl) c n
theorem sc_Sender_ticks : FnScope ["self"] ["self"] (defScope s_Sender_ticks) := ⟨rfl, rfl, rfl, by decide +kernel, rfl, by decide +kernel, by decide +kernel⟩
theorem prp_Sender_ticks (D : DefP K CS "ticks" "Sender.ticks" s_Sender_ticks) (c : Cls K CS) (n : NoAttr K CS "_ticks") : Prp P w K mg base CS "ticks" "_ticks" := by
  obtain ⟨p, g, fd, hp, F⟩ := D.ex
  exact prp_of hp F sc_Sender_ticks rfl rfl (fun _ _ _ _ _ _ us hl => match us, hl with | [_], _ => rfl) c n
theorem sc_Sender_hears : FnScope ["self"] ["self"] (defScope s_Sender_hears) := ⟨rfl, rfl, rfl, by decide +kernel, rfl, by decide +kernel, by decide +kernel⟩
theorem prp_Sender_hears (D : DefP K CS "hears" "Sender.hears" s_Sender_hears) (c : Cls K CS) (n : NoAttr K CS "_hears") : Prp P w K mg base CS "hears" "_hears" := by
  obtain ⟨p, g, fd, hp, F⟩ := D.ex
  exact prp_of hp F sc_Sender_hears rfl rfl (fun _ _ _ _ _ _ us hl => match us, hl with | [_], _ => rfl) c n
theorem sc_Sender_takes : FnScope ["self"] ["self"] (defScope s_Sender_takes) := ⟨rfl, rfl, rfl, by decide +kernel, rfl, by decide +kernel, by decide +kernel⟩
theorem prp_Sender_takes (D : DefP K CS "takes" "Sender.takes" s_Sender_takes) (c : Cls K CS) (n : NoAttr K CS "_takes") : Prp P w K mg base CS "takes" "_takes" := by
  obtain ⟨p, g, fd, hp, F⟩ := D.ex
  exact prp_of hp F sc_Sender_takes rfl rfl (fun _ _ _ _ _ _ us hl => match us, hl with | [_], _ => rfl) c n
theorem sc_Sender_crashes : FnScope ["self"] ["self"] (defScope s_Sender_crashes) := ⟨rfl, rfl, rfl, by decide +kernel, rfl, by decide +kernel, by decide +kernel⟩
theorem prp_Sender_crashes (D : DefP K CS "crashes" "Sender.crashes" s_Sender_crashes) (c : Cls K CS) (n : NoAttr K CS "_crashes") : Prp P w K mg base CS "crashes" "_crashes" := by
  obtain ⟨p, g, fd, hp, F⟩ := D.ex
  exact prp_of hp F sc_Sender_crashes rfl rfl (fun _ _ _ _ _ _ us hl => match us, hl with | [_], _ => rfl) c n
theorem sc_Receiver_value_count : FnScope ["self"] ["self"] (defScope s_Receiver_value_count) := ⟨rfl, rfl, rfl, by decide +kernel, rfl, by decide +kernel, by decide +kernel⟩
theorem prp_Receiver_value_count (D : DefP K CR "value_count" "Receiver.value_count" s_Receiver_value_count) (c : Cls K CR) (n : NoAttr K CR "_value_count") : Prp P w K mg base CR "value_count" "_value_count" := by
  obtain ⟨p, g, fd, hp, F⟩ := D.ex
  exact prp_of hp F sc_Receiver_value_count rfl rfl (fun _ _ _ _ _ _ us hl => match us, hl with | [_], _ => rfl) c n
theorem sc_Receiver_forward : FnScope ["self"] ["self"] (defScope s_Receiver_forward) := ⟨rfl, rfl, rfl, by decide +kernel, rfl, by decide +kernel, by decide +kernel⟩
theorem prp_Receiver_forward (D : DefP K CR "forward" "Receiver.forward" s_Receiver_forward) (c : Cls K CR) (n : NoAttr K CR "_forward") : Prp P w K mg base CR "forward" "_forward" := by
  obtain ⟨p, g, fd, hp, F⟩ := D.ex
  exact prp_of hp F sc_Receiver_forward rfl rfl (fun _ _ _ _ _ _ us hl => match us, hl with | [_], _ => rfl) c n
theorem sc_Receiver_backward : FnScope ["self"] ["self"] (defScope s_Receiver_backward) := ⟨rfl, rfl, rfl, by decide +kernel, rfl, by decide +kernel, by decide +kernel⟩
theorem prp_Receiver_backward (D : DefP K CR "backward" "Receiver.backward" s_Receiver_backward) (c : Cls K CR) (n : NoAttr K CR "_backward") : Prp P w K mg base CR "backward" "_backward" := by
  obtain ⟨p, g, fd, hp, F⟩ := D.ex
  exact prp_of hp F sc_Receiver_backward rfl rfl (fun _ _ _ _ _ _ us hl => match us, hl with | [_], _ => rfl) c n
theorem sc_Receiver_sends : FnScope ["self"] ["self"] (defScope s_Receiver_sends) := ⟨rfl, rfl, rfl, by decide +kernel, rfl, by decide +kernel, by decide +kernel⟩
theorem prp_Receiver_sends (D : DefP K CR "sends" "Receiver.sends" s_Receiver_sends) (c : Cls K CR) (n : NoAttr K CR "_sends") : Prp P w K mg base CR "sends" "_sends" := by
  obtain ⟨p, g, fd, hp, F⟩ := D.ex
  exact prp_of hp F sc_Receiver_sends rfl rfl (fun _ _ _ _ _ _ us hl => match us, hl with | [_], _ => rfl) c n
theorem sc_Receiver_ticks : FnScope ["self"] ["self"] (defScope s_Receiver_ticks) := ⟨rfl, rfl, rfl, by decide +kernel, rfl, by decide +kernel, by decide +kernel⟩
theorem prp_Receiver_ticks (D : DefP K CR "ticks" "Receiver.ticks" s_Receiver_ticks) (c : Cls K CR) (n : NoAttr K CR "_ticks") : Prp P w K mg base CR "ticks" "_ticks" := by
  obtain ⟨p, g, fd, hp, F⟩ := D.ex
  exact prp_of hp F sc_Receiver_ticks rfl rfl (fun _ _ _ _ _ _ us hl => match us, hl with | [_], _ => rfl) c n
theorem sc_Receiver_hears : FnScope ["self"] ["self"] (defScope s_Receiver_hears) := ⟨rfl, rfl, rfl, by decide +kernel, rfl, by decide +kernel, by decide +kernel⟩
theorem prp_Receiver_hears (D : DefP K CR "hears" "Receiver.hears" s_Receiver_hears) (c : Cls K CR) (n : NoAttr K CR "_hears") : Prp P w K mg base CR "hears" "_hears" := by
  obtain ⟨p, g, fd, hp, F⟩ := D.ex
  exact prp_of hp F sc_Receiver_hears rfl rfl (fun _ _ _ _ _ _ us hl => match us, hl with | [_], _ => rfl) c n
theorem sc_Receiver_gives : FnScope ["self"] ["self"] (defScope s_Receiver_gives) := ⟨rfl, rfl, rfl, by decide +kernel, rfl, by decide +kernel, by decide +kernel⟩
theorem prp_Receiver_gives (D : DefP K CR "gives" "Receiver.gives" s_Receiver_gives) (c : Cls K CR) (n : NoAttr K CR "_gives") : Prp P w K mg base CR "gives" "_gives" := by
  obtain ⟨p, g, fd, hp, F⟩ := D.ex
  exact prp_of hp F sc_Receiver_gives rfl rfl (fun _ _ _ _ _ _ us hl => match us, hl with | [_], _ => rfl) c n
theorem sc_Receiver_crashes : FnScope ["self"] ["self"] (defScope s_Receiver_crashes) := ⟨rfl, rfl, rfl, by decide +kernel, rfl, by decide +kernel, by decide +kernel⟩
theorem prp_Receiver_crashes (D : DefP K CR "crashes" "Receiver.crashes" s_Receiver_crashes) (c : Cls K CR) (n : NoAttr K CR "_crashes") : Prp P w K mg base CR "crashes" "_crashes" := by
  obtain ⟨p, g, fd, hp, F⟩ := D.ex
  exact prp_of hp F sc_Receiver_crashes rfl rfl (fun _ _ _ _ _ _ us hl => match us, hl with | [_], _ => rfl) c n
theorem sc_Pair_sender : FnScope ["self"] ["self"] (defScope s_Pair_sender) := ⟨rfl, rfl, rfl, by decide +kernel, rfl, by decide +kernel, by decide +kernel⟩
theorem prp_Pair_sender (D : DefP K CP "sender" "Pair.sender" s_Pair_sender) (c : Cls K CP) (n : NoAttr K CP "_sender") : Prp P w K mg base CP "sender" "_sender" := by
  obtain ⟨p, g, fd, hp, F⟩ := D.ex
  exact prp_of hp F sc_Pair_sender rfl rfl (fun _ _ _ _ _ _ us hl => match us, hl with | [_], _ => rfl) c n
theorem sc_Pair_receiver : FnScope ["self"] ["self"] (defScope s_Pair_receiver) := ⟨rfl, rfl, rfl, by decide +kernel, rfl, by decide +kernel, by decide +kernel⟩
theorem prp_Pair_receiver (D : DefP K CP "receiver" "Pair.receiver" s_Pair_receiver) (c : Cls K CP) (n : NoAttr K CP "_receiver") : Prp P w K mg base CP "receiver" "_receiver" := by
  obtain ⟨p, g, fd, hp, F⟩ := D.ex
  exact prp_of hp F sc_Pair_receiver rfl rfl (fun _ _ _ _ _ _ us hl => match us, hl with | [_], _ => rfl) c n
theorem pg_of (h : HdP K mg base T CP CS CR iP iS iR fP fS fR) : Pg P w K mg base T CP CS CR fP fS fR := by
  have B := h.b
  have iif := ok_is_integer_from (P := P) (w := w) (base := base) (T := T) h.d_is_integer_from B
  have isb := ok_is_below h.d_is_below iif
  have inb := ok_is_none_or_below h.d_is_none_or_below isb
  have isl := ok_is_list (P := P) (w := w) (base := base) (T := T) h.d_is_list B
  have cn := ok_check_number h.d_check_number iif
  have cc := ok_check_counts h.d_check_counts cn
  have sc := ok_state_count h.d_state_count B isl
  have ars := ok_are_states h.d_are_states B isb
  have arg := ok_are_gifts h.d_are_gifts B inb
  obtain ⟨c_message_table, t_message_table, l_message_table⟩ := h.l_message_table
  obtain ⟨c_state_table, t_state_table, l_state_table⟩ := h.l_state_table
  obtain ⟨c_hearing_table, t_hearing_table, l_hearing_table⟩ := h.l_hearing_table
  obtain ⟨c_taking_table, t_taking_table, l_taking_table⟩ := h.l_taking_table
  obtain ⟨c_giving_table, t_giving_table, l_giving_table⟩ := h.l_giving_table
  have c5 : Tabs5 P w K mg base T := ⟨cc, sc, ok_message_table l_message_table h.d_checked_table B isl inb, ok_state_table l_state_table h.d_checked_table B isl isb, ok_hearing_table l_hearing_table h.d_checked_table B isl ars, ok_taking_table l_taking_table h.d_checked_table B isl ars, ok_giving_table l_giving_table h.d_checked_table B isl arg⟩
  have nS : Prp8 P w K mg base CS "takes" "_takes" := ⟨h.cS, ⟨h.cS.cl, prp_Sender_value_count h.pS_value_count h.cS.cl (h.xS.no _ (by simp)), prp_Sender_forward h.pS_forward h.cS.cl (h.xS.no _ (by simp)), prp_Sender_backward h.pS_backward h.cS.cl (h.xS.no _ (by simp))⟩, prp_Sender_sends h.pS_sends h.cS.cl (h.xS.no _ (by simp)), prp_Sender_ticks h.pS_ticks h.cS.cl (h.xS.no _ (by simp)), prp_Sender_hears h.pS_hears h.cS.cl (h.xS.no _ (by simp)), prp_Sender_takes h.pS_takes h.cS.cl (h.xS.no _ (by simp)), prp_Sender_crashes h.pS_crashes h.cS.cl (h.xS.no _ (by simp))⟩
  have nR : Prp8 P w K mg base CR "gives" "_gives" := ⟨h.cR, ⟨h.cR.cl, prp_Receiver_value_count h.pR_value_count h.cR.cl (h.xR.no _ (by simp)), prp_Receiver_forward h.pR_forward h.cR.cl (h.xR.no _ (by simp)), prp_Receiver_backward h.pR_backward h.cR.cl (h.xR.no _ (by simp))⟩, prp_Receiver_sends h.pR_sends h.cR.cl (h.xR.no _ (by simp)), prp_Receiver_ticks h.pR_ticks h.cR.cl (h.xR.no _ (by simp)), prp_Receiver_hears h.pR_hears h.cR.cl (h.xR.no _ (by simp)), prp_Receiver_gives h.pR_gives h.cR.cl (h.xR.no _ (by simp)), prp_Receiver_crashes h.pR_crashes h.cR.cl (h.xR.no _ (by simp))⟩
  have np : PairC P w K mg base CP := ⟨h.cP, h.xP.mgC, prp_Pair_sender h.pP_sender h.cP.cl (h.xP.no _ (by simp)), prp_Pair_receiver h.pP_receiver h.cP.cl (h.xP.no _ (by simp))⟩
  have X2 : Fld2 K mg CP CS CR iP := ⟨h.xP, h.cS, h.cR, h.xS.mgC, h.xR.mgC⟩
  have ct := ok_counts (P := P) (w := w) (base := base) (T := T) h.d_counts
  have es : EqC P w K mg base 3 CS fS (SpE8 T K CS "_takes") := ⟨h.mS.at_, h.mS.fn, ok_Sender_eq h.eS B h.xS.mgC nS⟩
  have er : EqC P w K mg base 3 CR fR (SpE8 T K CR "_gives") := ⟨h.mR.at_, h.mR.fn, ok_Receiver_eq h.eR B h.xR.mgC nR⟩
  have ep : EqC P w K mg base 4 CP fP (SpEP T K CP CS CR) := ⟨h.mP.at_, h.mP.fn, ok_Pair_eq h.eP B np h.cS h.cR es er⟩
  have ckp := ok_check_pair (T := T) (CS := CS) (CR := CR) h.d_check_pair B np
  exact ⟨B, c5, isl, iif, isb, mk_sender h.iS_ h.xS c5, mk_receiver h.iR_ h.xR c5, mk_senderK h.iS_ h.xS c5, mk_receiverK h.iR_ h.xR c5, mk_pair h.iP_ X2 B nS.c3 nR.c3 ct, mk_pairK h.iP_ X2 B nS.c3 nR.c3 ct, nS, nR, np, es, er, ep, ckp, h.ap, h.nP, h.nS, h.xS.mgC, h.xR.mgC⟩
end
end LW

set_option Elab.async false
set_option linter.all false
set_option maxRecDepth 100000
set_option maxHeartbeats 4000000
/-! A talk, as data: tables, a stand, events, what follows. -/
namespace LW
open PySem PySem.Spec PyProof.Rows L2 LamX NdefX WE WLam WQ
structure Tb where
  a : Int
  b : Int
  c : Int
  s : List PyData
  t : List PyData
  h : List PyData
  k : List PyData
  r : List PyData
  s' : List PyData
  t' : List PyData
  h' : List PyData
  g' : List PyData
  r' : List PyData
structure Tb.Ok (T : Tb) : Prop where
  S : OkS T.a T.b T.c T.s T.t T.h T.k T.r
  R : OkR T.a T.b T.c T.s' T.t' T.h' T.g' T.r'
  sz : Sizes T.a T.b T.c
  zs : T.s.length ≤ 64
  zr : T.s'.length ≤ 64
abbrev Tb.dS (T : Tb) : PyData := tabs5 T.s T.t T.h T.k T.r
abbrev Tb.dR (T : Tb) : PyData := tabs5 T.s' T.t' T.h' T.g' T.r'
abbrev Tb.raw (T : Tb) : PyData := .tuple [szs T.a T.b T.c, T.dS, T.dR]
abbrev Tb.fS (T : Tb) : List (Str × PyData) := sndF T.a T.b T.c T.s T.t T.h T.k T.r
abbrev Tb.fR (T : Tb) : List (Str × PyData) := rcvF T.a T.b T.c T.s' T.t' T.h' T.g' T.r'
def fi : PyData → Nat
  | .int i => i.toNat
  | _ => 0
def at_ (l : List PyData) (i : Nat) : PyData := (l[i]?).getD .none
def ats (d : PyData) (i : Nat) : PyData := match d with
  | .tuple ds => at_ ds i
  | _ => .none
structure Sd where
  a : Nat
  b : Nat
  f : List PyData
  g : List PyData
abbrev Sd.d (s : Sd) : PyData := .tuple [.int s.a, .int s.b, .tuple s.f, .tuple s.g]
inductive Evt where
  | hand (v : Nat)
  | send
  | answer
  | passF
  | passB
  | loseF (i : Nat)
  | loseB (i : Nat)
  | crashS
  | crashR
def Evt.d : Evt → PyData
  | .hand v => .tuple [.str "hand", .int v]
  | .send => .tuple [.str "send"]
  | .answer => .tuple [.str "answer"]
  | .passF => .tuple [.str "pass", .str "forward"]
  | .passB => .tuple [.str "pass", .str "backward"]
  | .loseF i => .tuple [.str "lose", .str "forward", .int i]
  | .loseB i => .tuple [.str "lose", .str "backward", .int i]
  | .crashS => .tuple [.str "crash", .str "sender"]
  | .crashR => .tuple [.str "crash", .str "receiver"]
def put (l : List PyData) (d : PyData) : List PyData := if isNonD d then l else l ++ [d]
def Tb.step (T : Tb) (x : Sd) : Evt → Sd
  | .hand v => { x with a := fi (ats (at_ T.k x.a) v) }
  | .send => { x with a := fi (at_ T.t x.a), f := put x.f (at_ T.s x.a) }
  | .answer => { x with b := fi (at_ T.t' x.b), g := put x.g (at_ T.s' x.b) }
  | .passF => { x with b := fi (ats (at_ T.h' x.b) (fi (at_ x.f 0))), f := x.f.tail }
  | .passB => { x with a := fi (ats (at_ T.h x.a) (fi (at_ x.g 0))), g := x.g.tail }
  | .loseF i => { x with f := x.f.eraseIdx i }
  | .loseB i => { x with g := x.g.eraseIdx i }
  | .crashS => { x with a := fi (at_ T.r x.a) }
  | .crashR => { x with b := fi (at_ T.r' x.b) }
def Tb.gift (T : Tb) (x : Sd) : Evt → PyData
  | .passF => ats (at_ T.g' x.b) (fi (at_ x.f 0))
  | _ => .none
def Tb.free (T : Tb) (x : Sd) : Bool := !isNonD (at_ T.k x.a)
def Tb.Can (T : Tb) (x : Sd) : Evt → Prop
  | .hand v => T.free x = true ∧ (v : Int) < T.a
  | .passF => x.f ≠ []
  | .passB => x.g ≠ []
  | .loseF i => i < x.f.length
  | .loseB i => i < x.g.length
  | _ => True
structure Tb.Wf (T : Tb) (x : Sd) : Prop where
  a : x.a < T.s.length
  b : x.b < T.s'.length
  f : ∀ m ∈ x.f, below T.b m = true
  g : ∀ m ∈ x.g, below T.c m = true
def Sd.init : Sd := ⟨0, 0, [], []⟩
theorem at_get {l : List PyData} {i : Nat} (h : i < l.length) : l[i]? = some (at_ l i) := by
  unfold at_
  rw [List.getElem?_eq_getElem h]
  rfl
theorem at_mem {l : List PyData} {i : Nat} (h : i < l.length) : at_ l i ∈ l := List.mem_of_getElem? (at_get h)
theorem below_inv {n : Int} {d : PyData} (h : below n d = true) : d = .int (fi d) ∧ (fi d : Int) < n := by
  cases d with
  | int i =>
    have h : (decide (0 ≤ i) && decide (i < n)) = true := by first | exact h | simpa [below] using h
    obtain ⟨h1, h2⟩ := Bool.and_eq_true_iff.mp h
    have h1 := of_decide_eq_true h1
    have h2 := of_decide_eq_true h2
    have e : ((i.toNat : Nat) : Int) = i := by omega
    exact ⟨by show PyData.int i = .int ((i.toNat : Nat) : Int); rw [e], by show ((i.toNat : Nat) : Int) < n; omega⟩
  | _ => cases h
theorem states_at {n m : Int} {d : PyData} {i : Nat} (h : isStates n m d = true) (hi : (i : Int) < n) : ∃ ds, d = .tuple ds ∧ i < ds.length ∧ below m (ats d i) = true ∧ ds[i]? = some (ats d i) := by
  obtain ⟨ds, rfl, h1, h2⟩ := states_inv h
  have hl : i < ds.length := by omega
  exact ⟨ds, rfl, hl, h2 _ (at_mem hl), at_get hl⟩
theorem gifts_at {n m : Int} {d : PyData} {i : Nat} (h : isGifts n m d = true) (hi : (i : Int) < n) : ∃ ds, d = .tuple ds ∧ i < ds.length ∧ nonBelow m (ats d i) = true ∧ ds[i]? = some (ats d i) := by
  obtain ⟨ds, rfl, h1, h2⟩ := gifts_inv h
  have hl : i < ds.length := by omega
  exact ⟨ds, rfl, hl, h2 _ (at_mem hl), at_get hl⟩
theorem take_at {n m : Int} {d : PyData} (h : isTake n m d = true) (hf : isNonD d = false) : isStates n m d = true := by
  unfold isTake at h
  rcases Bool.or_eq_true_iff.mp h with z | z
  · rw [hf] at z
    cases z
  · exact z
section
variable {T : Tb} {x : Sd}
theorem Tb.Ok.sb (O : T.Ok) {i : Nat} (h : i < T.s.length) : nonBelow T.b (at_ T.s i) = true := O.S.s_ _ (at_mem h)
theorem Tb.Ok.tb (O : T.Ok) {i : Nat} (h : i < T.s.length) : below T.s.length (at_ T.t i) = true := O.S.t_ _ (at_mem (by rw [O.S.tl]; exact h))
theorem Tb.Ok.hb (O : T.Ok) {i : Nat} (h : i < T.s.length) : isStates T.c T.s.length (at_ T.h i) = true := (O.S.h_ _ (at_mem (by rw [O.S.hl]; exact h))).1
theorem Tb.Ok.kb (O : T.Ok) {i : Nat} (h : i < T.s.length) : isTake T.a T.s.length (at_ T.k i) = true := (O.S.k_ _ (at_mem (by rw [O.S.kl]; exact h))).1
theorem Tb.Ok.rb (O : T.Ok) {i : Nat} (h : i < T.s.length) : below T.s.length (at_ T.r i) = true := O.S.r_ _ (at_mem (by rw [O.S.rl]; exact h))
theorem Tb.Ok.sb' (O : T.Ok) {i : Nat} (h : i < T.s'.length) : nonBelow T.c (at_ T.s' i) = true := O.R.s_ _ (at_mem h)
theorem Tb.Ok.tb' (O : T.Ok) {i : Nat} (h : i < T.s'.length) : below T.s'.length (at_ T.t' i) = true := O.R.t_ _ (at_mem (by rw [O.R.tl]; exact h))
theorem Tb.Ok.hb' (O : T.Ok) {i : Nat} (h : i < T.s'.length) : isStates T.b T.s'.length (at_ T.h' i) = true := (O.R.h_ _ (at_mem (by rw [O.R.hl]; exact h))).1
theorem Tb.Ok.gb' (O : T.Ok) {i : Nat} (h : i < T.s'.length) : isGifts T.b T.a (at_ T.g' i) = true := (O.R.g_ _ (at_mem (by rw [O.R.gl]; exact h))).1
theorem Tb.Ok.rb' (O : T.Ok) {i : Nat} (h : i < T.s'.length) : below T.s'.length (at_ T.r' i) = true := O.R.r_ _ (at_mem (by rw [O.R.rl]; exact h))
theorem fi_lt {n : Nat} {d : PyData} (h : below n d = true) : fi d < n := by
  have := (below_inv h).2
  omega
theorem put_all {P : PyData → Prop} {l : List PyData} {d : PyData} (h : ∀ m ∈ l, P m) (hd : isNonD d = false → P d) : ∀ m ∈ put l d, P m := by
  intro m hm
  unfold put at hm
  cases e : isNonD d with
  | true =>
    rw [e] at hm
    exact h m hm
  | false =>
    rw [e] at hm
    rcases List.mem_append.mp hm with z | z
    · exact h m z
    · rw [List.mem_singleton.mp z]
      exact hd e
theorem below_of_non {n : Int} {d : PyData} (h : nonBelow n d = true) (e : isNonD d = false) : below n d = true := by
  cases d with
  | none => cases e
  | _ => first | exact h | simpa [nonBelow] using h
theorem Tb.Ok.init (O : T.Ok) : T.Wf Sd.init := ⟨List.length_pos_iff.mpr O.S.ne, List.length_pos_iff.mpr O.R.ne, (fun m h => by cases h), (fun m h => by cases h)⟩
theorem head_of {l : List PyData} (h : l ≠ []) : at_ l 0 ∈ l := at_mem (List.length_pos_iff.mpr h)
theorem Tb.Ok.step (O : T.Ok) (W : T.Wf x) {e : Evt} (C : T.Can x e) : T.Wf (T.step x e) := by
  cases e with
  | hand v =>
    have hf : isNonD (at_ T.k x.a) = false := by
      have := C.1
      unfold Tb.free at this
      simpa using this
    obtain ⟨ds, _, _, h1, _⟩ := states_at (take_at (O.kb W.a) hf) C.2
    exact ⟨fi_lt h1, W.b, W.f, W.g⟩
  | send => exact ⟨fi_lt (O.tb W.a), W.b, put_all W.f fun e => below_of_non (O.sb W.a) e, W.g⟩
  | answer => exact ⟨W.a, fi_lt (O.tb' W.b), W.f, put_all W.g fun e => below_of_non (O.sb' W.b) e⟩
  | passF =>
    obtain ⟨ds, _, _, h1, _⟩ := states_at (O.hb' W.b) (below_inv (W.f _ (head_of C))).2
    exact ⟨W.a, fi_lt h1, fun m hm => W.f m (List.mem_of_mem_tail hm), W.g⟩
  | passB =>
    obtain ⟨ds, _, _, h1, _⟩ := states_at (O.hb W.a) (below_inv (W.g _ (head_of C))).2
    exact ⟨fi_lt h1, W.b, W.f, fun m hm => W.g m (List.mem_of_mem_tail hm)⟩
  | loseF i => exact ⟨W.a, W.b, fun m hm => W.f m (List.mem_of_mem_eraseIdx hm), W.g⟩
  | loseB i => exact ⟨W.a, W.b, W.f, fun m hm => W.g m (List.mem_of_mem_eraseIdx hm)⟩
  | crashS => exact ⟨fi_lt (O.rb W.a), W.b, W.f, W.g⟩
  | crashR => exact ⟨W.a, fi_lt (O.rb' W.b), W.f, W.g⟩
/-! ### runs -/
def Tb.Run (T : Tb) : Sd → List Evt → Prop
  | _, [] => True
  | x, e :: es => T.Can x e ∧ T.Run (T.step x e) es
def Tb.walk (T : Tb) (x : Sd) (es : List Evt) : Sd := es.foldl T.step x
def Tb.outs (T : Tb) : Sd → List Evt → List PyData
  | _, [] => []
  | x, e :: es => T.gift x e :: T.outs (T.step x e) es
theorem Tb.walk_snoc {es : List Evt} {e : Evt} : T.walk x (es ++ [e]) = T.step (T.walk x es) e := by
  unfold Tb.walk
  rw [List.foldl_append]
  rfl
theorem Tb.run_snoc : ∀ {es : List Evt} {x : Sd} {e : Evt}, T.Run x es → T.Can (T.walk x es) e → T.Run x (es ++ [e])
  | [], _, _, _, h => ⟨h, trivial⟩
  | _ :: es, _, _, ⟨h1, h2⟩, h => ⟨h1, Tb.run_snoc (es := es) h2 h⟩
theorem Tb.run_at : ∀ {es : List Evt} {x : Sd} {i : Nat} {e : Evt}, T.Run x es → es[i]? = some e → T.Can (T.walk x (es.take i)) e
  | [], _, _, _, _, h => by simp at h
  | a :: es, _, 0, e, ⟨h1, _⟩, h => by
    simp at h
    subst h
    exact h1
  | a :: es, x, i + 1, e, ⟨_, h2⟩, h => Tb.run_at (es := es) (x := T.step x a) (i := i) h2 (by simpa using h)
theorem Tb.run_take : ∀ {es : List Evt} {x : Sd} (i : Nat), T.Run x es → T.Run x (es.take i)
  | [], _, i, _ => by simp [Tb.Run]
  | _ :: _, _, 0, _ => trivial
  | _ :: es, _, i + 1, ⟨h1, h2⟩ => ⟨h1, Tb.run_take (es := es) i h2⟩
theorem Tb.outs_snoc : ∀ {es : List Evt} {x : Sd} {e : Evt}, T.outs x (es ++ [e]) = T.outs x es ++ [T.gift (T.walk x es) e]
  | [], _, _ => rfl
  | a :: es, x, e => by
    show T.gift x a :: T.outs (T.step x a) (es ++ [e]) = T.gift x a :: T.outs (T.step x a) es ++ [T.gift (T.walk (T.step x a) es) e]
    rw [Tb.outs_snoc] <;> rfl
theorem Tb.outs_len : ∀ {es : List Evt} {x : Sd}, (T.outs x es).length = es.length
  | [], _ => rfl
  | a :: es, x => congrArg Nat.succ (Tb.outs_len (es := es) (x := T.step x a))
theorem put_len {l : List PyData} {d : PyData} : (put l d).length ≤ l.length + 1 := by
  unfold put
  split
  · omega
  · rw [List.length_append]
    exact Nat.le_refl _
theorem Tb.step_len {e : Evt} : (T.step x e).f.length ≤ x.f.length + 1 ∧ (T.step x e).g.length ≤ x.g.length + 1 := by
  cases e with
  | send => exact ⟨put_len, Nat.le_succ _⟩
  | answer => exact ⟨Nat.le_succ _, put_len⟩
  | passF => exact ⟨by show x.f.tail.length ≤ _; rw [List.length_tail]; omega, Nat.le_succ _⟩
  | passB => exact ⟨Nat.le_succ _, by show x.g.tail.length ≤ _; rw [List.length_tail]; omega⟩
  | loseF i => exact ⟨by show (x.f.eraseIdx i).length ≤ _; have := List.length_eraseIdx_le x.f i; omega, Nat.le_succ _⟩
  | loseB i => exact ⟨Nat.le_succ _, by show (x.g.eraseIdx i).length ≤ _; have := List.length_eraseIdx_le x.g i; omega⟩
  | _ => exact ⟨Nat.le_succ _, Nat.le_succ _⟩
theorem Tb.walk_len : ∀ {es : List Evt} {x : Sd}, (T.walk x es).f.length ≤ x.f.length + es.length ∧ (T.walk x es).g.length ≤ x.g.length + es.length
  | [], _ => ⟨Nat.le_refl _, Nat.le_refl _⟩
  | a :: es, x => by
    have h1 := Tb.walk_len (es := es) (x := T.step x a)
    have h2 := T.step_len (x := x) (e := a)
    have e : T.walk x (a :: es) = T.walk (T.step x a) es := rfl
    rw [e, List.length_cons]
    omega
theorem Tb.Ok.walk (O : T.Ok) : ∀ {es : List Evt} {x : Sd}, T.Wf x → T.Run x es → T.Wf (T.walk x es)
  | [], _, W, _ => W
  | a :: es, x, W, ⟨h1, h2⟩ => Tb.Ok.walk O (es := es) (x := T.step x a) (O.step W h1) h2
/-! ### the events that are possible -/
def Tb.deeds (T : Tb) (x : Sd) : List Evt := (if T.free x then (List.range T.a.toNat).map Evt.hand else []) ++ [.send, .answer] ++ (if x.f.isEmpty then [] else [.passF]) ++ (if x.g.isEmpty then [] else [.passB]) ++ (List.range x.f.length).map Evt.loseF ++ (List.range x.g.length).map Evt.loseB ++ [.crashS, .crashR]
theorem Tb.can_deeds {e : Evt} (h : e ∈ T.deeds x) : T.Can x e := by
  unfold Tb.deeds at h
  simp only [List.mem_append] at h
  rcases h with ((((((h | h) | h) | h) | h) | h) | h)
  · split at h
    · rename_i hf
      obtain ⟨v, hv, rfl⟩ := List.mem_map.mp h
      have := List.mem_range.mp hv
      exact ⟨hf, by omega⟩
    · cases h
  · simp only [List.mem_cons, List.mem_nil_iff, or_false] at h
    rcases h with rfl | rfl <;> trivial
  · split at h
    · cases h
    · rename_i hf
      rw [List.mem_singleton.mp h]
      exact fun z => hf (by rw [z] <;> rfl)
  · split at h
    · cases h
    · rename_i hf
      rw [List.mem_singleton.mp h]
      exact fun z => hf (by rw [z] <;> rfl)
  · obtain ⟨v, hv, rfl⟩ := List.mem_map.mp h
    exact List.mem_range.mp hv
  · obtain ⟨v, hv, rfl⟩ := List.mem_map.mp h
    exact List.mem_range.mp hv
  · simp only [List.mem_cons, List.mem_nil_iff, or_false] at h
    rcases h with rfl | rfl <;> trivial
/-! ### what the law tells of deliveries -/
def founds : Nat → List PyData → List PyData
  | _, [] => []
  | i, o :: os => if isNonD o then founds (i + 1) os else .tuple [.int (i : Nat), o] :: founds (i + 1) os
def vals (os : List PyData) : List PyData := os.filter fun o => !isNonD o
theorem founds_snoc : ∀ {os : List PyData} {i : Nat} {o : PyData}, founds i (os ++ [o]) = founds i os ++ (if isNonD o then [] else [.tuple [.int ((i + os.length : Nat) : Int), o]])
  | [], i, o => by
    show founds i [o] = _
    unfold founds
    cases isNonD o <;> rfl
  | a :: os, i, o => by
    have ih := founds_snoc (os := os) (i := i + 1) (o := o)
    have e : i + 1 + os.length = i + (os.length + 1) := by omega
    show founds i (a :: (os ++ [o])) = founds i (a :: os) ++ _
    unfold founds
    cases isNonD a with
    | true =>
      rw [if_pos rfl, if_pos rfl, ih, e]
      rfl
    | false =>
      rw [if_neg (by decide), if_neg (by decide), ih, e]
      rfl
theorem founds_vals : ∀ {os : List PyData} {i : Nat}, (founds i os).map (fun d => ats d 1) = vals os
  | [], _ => rfl
  | a :: os, i => by
    have ih := founds_vals (os := os) (i := i + 1)
    unfold founds vals
    rw [List.filter_cons]
    cases isNonD a with
    | true =>
      rw [if_pos rfl, ih]
      rfl
    | false =>
      rw [if_neg (by decide), List.map_cons, ih]
      rfl
end
end LW

set_option Elab.async false
set_option linter.all false
set_option maxRecDepth 100000
set_option maxHeartbeats 8000000
namespace LW
open PySem PySem.Spec PyProof.Rows L2 LamX NdefX WE WLam WQ
section
variable {K : PySem.W.Frag} {R : Rs} {σ : L2.St} {H H' H0 : Hp} {n m k : Nat} {ta tb te : TE} {tl : TA} {t u : TT} {D : Ends} {tz tu tw : TS} {g : TG} {P : Rp R} {ds : List PyData} {d : PyData} {b : Bool}
theorem s_asgG (k : Ok R n H) (h : Ev R n m te σ H P) (q : ∀ v H1, Xt R H H1 → Ok R m H1 → P.r v H1 → g v σ H1 fun σ2 H2 => D.nx σ2 H2) : tAsg te g D σ H := h H (.refl _) k _ q
theorem s_par {i j : Nat} {P1 P2 : Rp R} (kk : Ok R n H) (h : EvA R n m tl σ H [P1, P2]) (q : ∀ v w H1, Xt R H H1 → Ok R m H1 → P1.r v H1 → P2.r w H1 → D.nx ((σ.set i (some v)).set j (some w)) H1) : tPar i j tl D σ H :=
  h H (.refl _) kk _ fun vs H1 x1 k1 r => by
    obtain ⟨v, _, rfl, hv, w', _, rfl, hw, rfl⟩ := r
    exact ⟨v, w', rfl, q v w' H1 x1 k1 hv hw⟩
theorem q_ifT (k : Ok R n H) (h : EvT R n m t σ H (· = b)) (hb : b = true) (q : ∀ H1, Xt R H H1 → Ok R m H1 → tu { D with nx := tz D } σ H1) : tSeq (tIfS t tu tw) tz D σ H := q_if k h (fun _ => q) fun z => absurd (z.trans hb) (by decide)
theorem q_ifF (k : Ok R n H) (h : EvT R n m t σ H (· = b)) (hb : b = false) (q : ∀ H1, Xt R H H1 → Ok R m H1 → tw { D with nx := tz D } σ H1) : tSeq (tIfS t tu tw) tz D σ H := q_if k h (fun z => absurd (z.trans hb) (by decide)) fun _ => q
theorem s_ifT (k : Ok R n H) (h : EvT R n m t σ H (· = b)) (hb : b = true) (q : ∀ H1, Xt R H H1 → Ok R m H1 → tu D σ H1) : tIfS t tu tw D σ H := s_if k h (fun _ => q) fun z => absurd (z.trans hb) (by decide)
theorem s_ifF (k : Ok R n H) (h : EvT R n m t σ H (· = b)) (hb : b = false) (q : ∀ H1, Xt R H H1 → Ok R m H1 → tw D σ H1) : tIfS t tu tw D σ H := s_if k h (fun z => absurd (z.trans hb) (by decide)) fun _ => q
theorem ev_strD {w z : Str} (h : Ev R n m te σ H (dP K R (· = .str w))) : Ev R n m (tOp rEq te (tC (.str z))) σ H (bP R (· = decide (w = z))) := fun H1 x1 k1 Q q =>
  h H1 x1 k1 _ fun v H2 x2 k2 ⟨d, hd, e⟩ => by
    subst e
    have := dq_str hd
    subst this
    refine ⟨rfl, q _ H2 x2 k2 ⟨_, rfl, ?_⟩⟩
    congr 1
    exact propext ⟨fun z => by injection z, fun z => by rw [z]⟩
theorem evt_str {i : Nat} {w z : Str} (h : σ[i]? = some (some (.str w))) : EvT R m m (tTest (tOp rEq (tVar i) (tC (.str z)))) σ H (· = decide (w = z)) := evt_test fun H1 x1 k1 Q q => ⟨_, h, rfl, q _ H1 (.refl _) k1 ⟨_, rfl, by
    congr 1
    exact propext ⟨fun z => by injection z, fun z => by rw [z]⟩⟩⟩
theorem evt_andF (h1 : EvT R n m t σ H (· = false)) : EvT R n m (tAnd t u) σ H (· = false) := fun H1 x1 k1 Q q => h1 H1 x1 k1 _ fun b H2 x2 k2 e => by
  subst e
  exact iteF (q false H2 x2 k2 rfl)
theorem evt_andT {c : Bool} (h1 : EvT R n m t σ H (· = true)) (h2 : EvT R m m u σ H (· = c)) : EvT R n m (tAnd t u) σ H (· = c) := fun H1 x1 k1 Q q => h1 H1 x1 k1 _ fun b H2 x2 k2 e => by
  subst e
  exact iteT (h2 H2 (x1.trans x2) k2 Q fun c H3 x3 k3 e => q c H3 (x2.trans x3) k3 e)
theorem ev_nth {i : Nat} (ha : Ev R n k ta σ H (dP K R (· = .tuple ds))) (hb : Ev R k m tb σ H (iP R (· = ((i : Nat) : Int)))) (hi : i < ds.length) : Ev R n m (tOp (rIx K) ta tb) σ H (dP K R (· = at_ ds i)) :=
  ev_atE (ha.imp fun v H' _ ⟨d, hd, e⟩ => ⟨d, hd, .inl e⟩) hb (Int.natCast_nonneg _) (by rw [Int.toNat_natCast]; exact at_get hi)
theorem ev_nthS {i : Nat} (ha : Ev R n k ta σ H (dP K R (· = d))) (hb : Ev R k m tb σ H (iP R (· = ((i : Nat) : Int)))) (hd : ∃ ds, d = .tuple ds ∧ i < ds.length) : Ev R n m (tOp (rIx K) ta tb) σ H (dP K R (· = ats d i)) := by
  obtain ⟨ds, rfl, hi⟩ := hd
  exact ev_nth ha hb hi
theorem ev_intOf (h : Ev R n m te σ H (dP K R (· = d))) {i : Nat} (hd : d = .int (i : Nat)) : Ev R n m te σ H (iP R (· = ((i : Nat) : Int))) := ev_asI h fun d' e => ⟨i, by rw [show d' = d from e, hd], rfl⟩
theorem dP_eq {e : PyData} (h : Ev R n m te σ H (dP K R (· = d))) (hd : d = e) : Ev R n m te σ H (dP K R (· = e)) := by rw [← hd]; exact h
end
section
variable {P : Program} {w : World} {K : PySem.W.Frag} {mg : Str → Option Value} {base : Heap} {T : List (Addr × Str)}
/-! ### _law_tick -/
theorem sc_law_tick : FnScope ["table", "at", "line", "letter"] ["table", "at", "line"] (defScope s_law_tick) := ⟨rfl, rfl, rfl, by decide +kernel, rfl, by decide +kernel, by decide +kernel⟩
abbrev SpTk (T : List (Addr × Str)) (K : PySem.W.Frag) : Sp := SpD T K 3 (fun ds => ∃ (s t h k r l : List PyData) (a : Nat), ds = [tabs5 s t h k r, .int a, .tuple l] ∧ a < s.length ∧ t.length = s.length ∧ l.length ≤ 1000)
  (fun ds d => ∃ (s t h k r l : List PyData) (a : Nat), ds = [tabs5 s t h k r, .int a, .tuple l] ∧ d = .tuple [at_ t a, .tuple (put l (at_ s a))])
theorem ok_law_tick (D : Def1 K mg "_law_tick" s_law_tick) : Cal P w K mg base CX0 1 "_law_tick" ["table", "at", "line"] (SpTk T K) := by
  refine cal_of D sc_law_tick (fun _ _ _ _ _ _ us hl => match us, hl with | [_, _, _], _ => rfl) (fun vs H Q E h => h.1) (fun f cdv A outer s0 H vs Q E hr hh => ?_)
  obtain ⟨_, R, m, ds, rfl, ok, hd, ⟨s, t, h, k, r, l, a, rfl, ha, ht, hl⟩, q⟩ := hh
  obtain ⟨v1, v2, v3, rfl, h1, h2, h3⟩ := dqa3 hd
  have := dq_int h2
  subst this
  refine ⟨_, pss_cons (ps_set (i := 3) sc_law_tick.nd rfl (.inl rfl) (pe_ix (r := rIx K) ix_seq (pe_ix (r := rIx K) ix_seq (pv 0) pe_int (fun _ _ => rfl)) (pv 1) (fun _ _ => rfl)))
    (pss_one (ps_ret (pe_tup (pa_cons (pe_ix (r := rIx K) ix_seq (pe_ix (r := rIx K) ix_seq (pv 0) pe_int (fun _ _ => rfl)) (pv 1) (fun _ _ => rfl)) (pa_cons (pe_ifExp (pt_cmpR op_isN (pv 3) pe_non (nomark _)) (pv 2) (pe_op op_catA (pv 2) (pe_tup (pa_cons (pv 3) pa_nil)))) pa_nil))))), ?_⟩
  refine q_asg ok (ev_nth (i := a) (ev_at rfl h1 0 rfl rfl) (ev_ivar rfl) ha) fun v4 H1 x1 k1 ⟨d, h4, e⟩ => ?_
  subst e
  refine s_ret (m := m) k1 (ev_tupK [at_ t a, .tuple (put l (at_ s a))] (eva_d (ev_nth (i := a) (ev_at rfl (h1.mono x1) 1 rfl rfl) (ev_ivar rfl) (by omega)) (eva_d (ev_if (p := (· = isNonD (at_ s a))) (evt_test ((ev_isN (ev_dvar rfl h4)).imp fun v H' _ ⟨b, e, d, e1, e2⟩ => ⟨b, e, by rw [e2, e1]⟩)) (fun z => ?_) (fun z => ?_)) eva_nil)) (by show 2 ≤ 1000; decide)) fun v H2 x2 k2 ⟨d, hd, e⟩ => ?_
  · refine dP_eq (ev_dvar rfl (h3.mono x1)) ?_
    unfold put
    rw [← z]
    rfl
  · refine ev_catAK (ev_dvar rfl (h3.mono x1)) (ev_tupK [at_ s a] (eva_d (ev_dvar rfl h4) eva_nil) (by show 1 ≤ 1000; decide)) (by omega) (by show 1 ≤ 100000; decide) ?_
    unfold put
    rw [← z]
    rfl
  · subst e
    exact q v H2 _ (x1.trans x2) k2 hd ⟨s, t, h, k, r, l, a, rfl, rfl⟩
theorem ev_tkE {R : Rs} {σ : L2.St} {H : Hp} {n m k l' : Nat} {te1 te2 te3 : TE} {s t h g r l : List PyData} {a : Nat} (h1 : Ev R n k te1 σ H (dP K R (· = tabs5 s t h g r))) (h2 : Ev R k l' te2 σ H (dP K R (· = .int (a : Nat)))) (h3 : Ev R l' m te3 σ H (dP K R (· = .tuple l))) (ha : a < s.length) (ht : t.length = s.length) (hl : l.length ≤ 1000) :
    Ev R n m (tCall (SpTk R.T K) [] E0 (tCons te1 (tCons te2 (tCons te3 tNil)))) σ H (dP K R (· = .tuple [at_ t a, .tuple (put l (at_ s a))])) :=
  (ev_callD (ps := [(· = tabs5 s t h g r), (· = .int (a : Nat)), (· = .tuple l)]) (eva_d h1 (eva_d h2 (eva_d h3 eva_nil))) rfl fun ds e => by
    obtain ⟨_, _, rfl, rfl, _, _, rfl, rfl, _, _, rfl, rfl, rfl⟩ := e
    exact ⟨s, t, h, g, r, l, a, rfl, ha, ht, hl⟩).imp fun v H' _ ⟨d, hd, ds, e, s', t', h', k', r', l', a', e2, e3⟩ => ⟨d, hd, by
      obtain ⟨_, _, rfl, rfl, _, _, rfl, rfl, _, _, rfl, rfl, rfl⟩ := e
      injection e2 with e4 e2
      injection e2 with e5 e2
      injection e2 with e6 e2
      injection e4 with e4
      injection e4 with e7 e4
      injection e4 with e8 e4
      injection e5 with e5
      injection e6 with e6
      injection e7 with e7
      injection e8 with e8
      have e5 : a = a' := by omega
      subst e5 e6 e7 e8
      exact e3⟩
end
end LW

set_option Elab.async false
set_option linter.all false
set_option maxRecDepth 100000
set_option maxHeartbeats 8000000
namespace LW
open PySem PySem.Spec PyProof.Rows L2 LamX NdefX WE WLam WQ
theorem tail_drop {l : List PyData} : l.drop 1 = l.tail := by cases l <;> rfl
theorem erase_cut {l : List PyData} {i : Nat} : l.take i ++ l.drop (i + 1) = l.eraseIdx i := (List.eraseIdx_eq_take_drop_succ l i).symm
section
variable {K : PySem.W.Frag} {R : Rs} {σ : L2.St} {H : Hp} {n m k : Nat} {ta tb te : TE} {ds : List PyData} {d : PyData}
theorem ev_ixN (ha : Ev R n m ta σ H (dP K R (· = .tuple ds))) {z : Int} (j : Nat) (hz : z = (j : Int)) (hj : ds[j]? = some d) : Ev R n m (tOp (rIx K) ta (tC (.int z))) σ H (dP K R (· = d)) :=
  ev_atE (ha.imp fun v H' _ ⟨d, hd, e⟩ => ⟨d, hd, .inl e⟩) ev_int (by omega) (by subst hz; rw [Int.toNat_natCast]; exact hj)
theorem ev_cut {i : Nat} {v : V} {j : Nat} {tb : TE} (hv : σ[j]? = some (some v)) (hd : Dq K R.M H v (.tuple ds)) (hb : ∀ {m}, Ev R m m tb σ H (iP R (· = ((i : Nat) : Int)))) (hi : i < ds.length) (hl : ds.length ≤ 100000) :
    Ev R m m (tOp (rCatA K) (tSl (rSlA K) (tVar j) tNoPart (tPart tb)) (tSl (rSlA K) (tVar j) (tPart (tOp (rI0 fun i j => .int (i + j)) tb (tC (.int 1)))) tNoPart)) σ H (dP K R (· = .tuple (ds.eraseIdx i))) :=
  ev_catAK (ev_sltToE (ev_dvar hv hd) hb (cut_to (by omega) (by omega))) (ev_sltFromE (ev_dvar hv hd) (ev_addK hb ev_int) (cut_from (by omega) (by omega))) (by rw [List.length_take]; omega) (by rw [List.length_drop]; omega) (by
    have e : (((i : Nat) : Int) + 1).toNat = i + 1 := by omega
    rw [e, Int.toNat_natCast]
    exact erase_cut)
theorem ev_tailE {v : V} {j : Nat} (hv : σ[j]? = some (some v)) (hd : Dq K R.M H v (.tuple ds)) (hi : ds ≠ []) : Ev R m m (tSl (rSlA K) (tVar j) (tPart (tC (.int 1))) tNoPart) σ H (dP K R (· = .tuple ds.tail)) :=
  ev_sltFromE (ev_dvar hv hd) ev_int ((cut_from (by omega) (by have := List.length_pos_iff.mpr hi; omega)).trans tail_drop)
end
/-- a talk's numbers are small -/
structure Sd.Sm (x : Sd) : Prop where
  f : x.f.length ≤ 1000
  g : x.g.length ≤ 1000
section
variable {P : Program} {w : World} {K : PySem.W.Frag} {mg : Str → Option Value} {base : Heap} {T : List (Addr × Str)}
/-! ### _law_step -/
theorem sc_law_step : FnScope ["raw", "stand", "deed", "a", "b", "there", "back", "word", "value"] ["raw", "stand", "deed"] (defScope s_law_step) := ⟨rfl, rfl, rfl, by decide +kernel, rfl, by decide +kernel, by decide +kernel⟩
def SpSt (T : List (Addr × Str)) (K : PySem.W.Frag) : Sp := fun vs H Q _ => vs.length = 3 ∧ ∃ (R : Rs) (m : Nat) (B : Tb) (x : Sd) (e : Evt), R.T = T ∧ WE.Ok R m H ∧ DqAll K R.M H vs [B.raw, x.d, e.d] ∧ B.Ok ∧ B.Wf x ∧ B.Can x e ∧ x.Sm ∧
  ∀ v H', Xt R H H' → WE.Ok R m H' → Dq K R.M H' v (.tuple [(B.step x e).d, B.gift x e]) → Q v H'
theorem ok_law_step (D : Def1 K mg "_law_step" s_law_step) (C1 : Cal P w K mg base CX0 1 "_law_tick" ["table", "at", "line"] (SpTk T K)) : Cal P w K mg base CX0 2 "_law_step" ["raw", "stand", "deed"] (SpSt T K) := by
  refine cal_of D sc_law_step (fun _ _ _ _ _ _ us hl => match us, hl with | [_, _, _], _ => rfl) (fun vs H Q E h => h.1) (fun f cdv A outer s0 H vs Q E hr hh => ?_)
  obtain ⟨_, R, m, B, x, e, rfl, ok, hd, O, W, C, sm, q⟩ := hh
  obtain ⟨v0, v1, v2, rfl, h0, h1, h2⟩ := dqa3 hd
  refine ⟨_, pss_cons (ps_asg (pv 1) (pg_tup rfl (pgs_cons (pg_name (i := 3) sc_law_step.nd rfl (.inl rfl)) (pgs_cons (pg_name (i := 4) sc_law_step.nd rfl (.inl rfl)) (pgs_cons (pg_name (i := 5) sc_law_step.nd rfl (.inl rfl)) (pgs_cons (pg_name (i := 6) sc_law_step.nd rfl (.inl rfl)) pgs_nil))))))
    (pss_cons (ps_par (i := 7) (j := 8) rfl sc_law_step.nd rfl rfl (by decide) rfl rfl (pa_cons (pe_ix (r := rIx K) ix_seq (pv 2) pe_int (fun _ _ => rfl)) (pa_cons pe_non pa_nil)) (by rfl))
    (pss_cons (ps_if (pt_cmpR op_eq (pv 7) pe_str (nomark _))
      (pss_one (ps_set (i := 3) sc_law_step.nd rfl (.inl rfl) (pe_ix (r := rIx K) ix_seq (pe_ix (r := rIx K) ix_seq (pe_ix (r := rIx K) ix_seq (pe_ix (r := rIx K) ix_seq (pv 0) pe_int (fun _ _ => rfl)) pe_int (fun _ _ => rfl)) (pv 3) (fun _ _ => rfl)) (pe_ix (r := rIx K) ix_seq (pv 2) pe_int (fun _ _ => rfl)) (fun _ _ => rfl))))
      (pss_one (ps_if (pt_cmpR op_eq (pv 7) pe_str (nomark _))
      (pss_one (ps_asg (pe_cal C1 hr (by decide) (by rfl) pass0 (pa_cons (pe_ix (r := rIx K) ix_seq (pv 0) pe_int (fun _ _ => rfl)) (pa_cons (pv 3) (pa_cons (pv 5) pa_nil)))) (pg_tup rfl (pgs_cons (pg_name (i := 3) sc_law_step.nd rfl (.inl rfl)) (pgs_cons (pg_name (i := 5) sc_law_step.nd rfl (.inl rfl)) pgs_nil)))))
      (pss_one (ps_if (pt_cmpR op_eq (pv 7) pe_str (nomark _))
      (pss_one (ps_asg (pe_cal C1 hr (by decide) (by rfl) pass0 (pa_cons (pe_ix (r := rIx K) ix_seq (pv 0) pe_int (fun _ _ => rfl)) (pa_cons (pv 4) (pa_cons (pv 6) pa_nil)))) (pg_tup rfl (pgs_cons (pg_name (i := 4) sc_law_step.nd rfl (.inl rfl)) (pgs_cons (pg_name (i := 6) sc_law_step.nd rfl (.inl rfl)) pgs_nil)))))
      (pss_one (ps_if (PW.pt (pw_and (pt_cmpR op_eq (pv 7) pe_str (nomark _)) (pw_and1 (pt_cmpR op_eq (pe_ix (r := rIx K) ix_seq (pv 2) pe_int (fun _ _ => rfl)) pe_str (nomark _)))))
      (pss_cons (ps_set (i := 8) sc_law_step.nd rfl (.inl rfl) (pe_ix (r := rIx K) ix_seq (pe_ix (r := rIx K) ix_seq (pe_ix (r := rIx K) ix_seq (pe_ix (r := rIx K) ix_seq (pv 0) pe_int (fun _ _ => rfl)) pe_int (fun _ _ => rfl)) (pv 4) (fun _ _ => rfl)) (pe_ix (r := rIx K) ix_seq (pv 5) pe_int (fun _ _ => rfl)) (fun _ _ => rfl))) (pss_one (ps_par (i := 4) (j := 5) rfl sc_law_step.nd rfl rfl (by decide) rfl rfl (pa_cons (pe_ix (r := rIx K) ix_seq (pe_ix (r := rIx K) ix_seq (pe_ix (r := rIx K) ix_seq (pe_ix (r := rIx K) ix_seq (pv 0) pe_int (fun _ _ => rfl)) pe_int (fun _ _ => rfl)) (pv 4) (fun _ _ => rfl)) (pe_ix (r := rIx K) ix_seq (pv 5) pe_int (fun _ _ => rfl)) (fun _ _ => rfl)) (pa_cons (pe_slice sl_tupA (pv 5) (po_some pe_int) po_none) pa_nil)) (by rfl))))
      (pss_one (ps_if (pt_cmpR op_eq (pv 7) pe_str (nomark _))
      (pss_one (ps_par (i := 3) (j := 6) rfl sc_law_step.nd rfl rfl (by decide) rfl rfl (pa_cons (pe_ix (r := rIx K) ix_seq (pe_ix (r := rIx K) ix_seq (pe_ix (r := rIx K) ix_seq (pe_ix (r := rIx K) ix_seq (pv 0) pe_int (fun _ _ => rfl)) pe_int (fun _ _ => rfl)) (pv 3) (fun _ _ => rfl)) (pe_ix (r := rIx K) ix_seq (pv 6) pe_int (fun _ _ => rfl)) (fun _ _ => rfl)) (pa_cons (pe_slice sl_tupA (pv 6) (po_some pe_int) po_none) pa_nil)) (by rfl)))
      (pss_one (ps_if (PW.pt (pw_and (pt_cmpR op_eq (pv 7) pe_str (nomark _)) (pw_and1 (pt_cmpR op_eq (pe_ix (r := rIx K) ix_seq (pv 2) pe_int (fun _ _ => rfl)) pe_str (nomark _)))))
      (pss_one (ps_set (i := 5) sc_law_step.nd rfl (.inl rfl) (pe_op op_catA (pe_slice sl_tupA (pv 5) po_none (po_some (pe_ix (r := rIx K) ix_seq (pv 2) pe_int (fun _ _ => rfl)))) (pe_slice sl_tupA (pv 5) (po_some (pe_op op_add (pe_ix (r := rIx K) ix_seq (pv 2) pe_int (fun _ _ => rfl)) pe_int)) po_none))))
      (pss_one (ps_if (pt_cmpR op_eq (pv 7) pe_str (nomark _))
      (pss_one (ps_set (i := 6) sc_law_step.nd rfl (.inl rfl) (pe_op op_catA (pe_slice sl_tupA (pv 6) po_none (po_some (pe_ix (r := rIx K) ix_seq (pv 2) pe_int (fun _ _ => rfl)))) (pe_slice sl_tupA (pv 6) (po_some (pe_op op_add (pe_ix (r := rIx K) ix_seq (pv 2) pe_int (fun _ _ => rfl)) pe_int)) po_none))))
      (pss_one (ps_if (pt_cmpR op_eq (pe_ix (r := rIx K) ix_seq (pv 2) pe_int (fun _ _ => rfl)) pe_str (nomark _))
      (pss_one (ps_set (i := 3) sc_law_step.nd rfl (.inl rfl) (pe_ix (r := rIx K) ix_seq (pe_ix (r := rIx K) ix_seq (pe_ix (r := rIx K) ix_seq (pv 0) pe_int (fun _ _ => rfl)) pe_int (fun _ _ => rfl)) (pv 3) (fun _ _ => rfl))))
      (pss_one (ps_set (i := 4) sc_law_step.nd rfl (.inl rfl) (pe_ix (r := rIx K) ix_seq (pe_ix (r := rIx K) ix_seq (pe_ix (r := rIx K) ix_seq (pv 0) pe_int (fun _ _ => rfl)) pe_int (fun _ _ => rfl)) (pv 4) (fun _ _ => rfl)))))))))))))))))))
    (pss_one (ps_ret (pe_tup (pa_cons (pe_tup (pa_cons (pv 3) (pa_cons (pv 4) (pa_cons (pv 5) (pa_cons (pv 6) pa_nil))))) (pa_cons (pv 8) pa_nil))))))), ?_⟩
  have fin : ∀ (x' : Sd) (o : PyData) {va vb vf vg v8 : V} {v7 : Option V} {H' : Hp}, Xt R H H' → WE.Ok R m H' → Dq K R.M H' va (.int x'.a) → Dq K R.M H' vb (.int x'.b) → Dq K R.M H' vf (.tuple x'.f) → Dq K R.M H' vg (.tuple x'.g) → Dq K R.M H' v8 o → x' = B.step x e → o = B.gift x e →
      tRet (tTup (tCons (tTup (tCons (tVar 3) (tCons (tVar 4) (tCons (tVar 5) (tCons (tVar 6) tNil))))) (tCons (tVar 8) tNil))) { nx := fun _ H' => Q .non H', rt := Q } [some v0, some v1, some v2, some va, some vb, some vf, some vg, v7, some v8] H' := by
    intro x' o va vb vf vg v8 v7 H' xx kk ha hb hf hg ho ex eo
    refine s_ret kk (ev_tupK (K := K) [x'.d, o] (eva_d (ev_tupK [.int x'.a, .int x'.b, .tuple x'.f, .tuple x'.g] (eva_d (ev_dvar rfl ha) (eva_d (ev_dvar rfl hb) (eva_d (ev_dvar rfl hf) (eva_d (ev_dvar rfl hg) eva_nil)))) (by show 4 ≤ 1000; decide)) (eva_d (ev_dvar rfl ho) eva_nil)) (by show 2 ≤ 1000; decide)) fun v H2 x2 k2 ⟨d, hd, e2⟩ => ?_
    subst e2 ex eo
    exact q v H2 (xx.trans x2) k2 hd
  refine q_asgT (n := m) (m := m) ok (ev_dvar rfl h1) fun v H1 x1 k1 ⟨d, hd1, e1⟩ => ?_
  subst e1
  obtain ⟨al, xs, rfl, hT, hA⟩ := dq_tup hd1
  obtain ⟨u3, u4, u5, u6, rfl, g3, g4, g5, g6⟩ := dqa4 hA
  refine ⟨al, _, rfl, hT, rfl, _, _, rfl, _, _, rfl, _, _, rfl, _, _, rfl, rfl, ?_⟩
  have e3 := dq_int g3
  have e4 := dq_int g4
  subst e3 e4
  have h0a := h0.mono x1
  have h2a := h2.mono x1
  cases e
  · -- hand v
    rename_i v
    refine q_par (P1 := vP R (.str "hand")) (P2 := vP R .non) (n := m) (m := m) k1 (eva_cons ((ev_at rfl h2a 0 rfl rfl).imp fun v H' _ ⟨d, hd, e⟩ => by subst e; exact dq_str hd) (eva_cons (ev_c fun _ => rfl) eva_nil)) fun v7 v8 H2 x2 k2 e7 e8 => ?_
    cases (show v7 = _ from e7)
    cases (show v8 = _ from e8)
    refine q_ifT k2 (evt_str (w := "hand") rfl) (by decide) fun H3 x3 k3 => ?_
    have xx := ((x1.trans x2).trans x3)
    have y12 := (x2.trans x3)
    have h0b := h0.mono xx
    have h2b := h2.mono xx
    have g5b := g5.mono y12
    have g6b := g6.mono y12
    have hf : isNonD (at_ B.k x.a) = false := by have := C.1; unfold Tb.free at this; simpa using this
    obtain ⟨ds, e1, e2, e3, e4⟩ := states_at (take_at (O.kb W.a) hf) C.2
    refine s_asg (n := m) (m := m) k3 (ev_nthS (i := v) (ev_nth (i := x.a) (ev_ixN (ev_at rfl (h0b) 1 rfl rfl) 3 rfl rfl) (ev_ivar rfl) (by rw [O.S.kl]; exact W.a)) (ev_intOf (ev_at rfl h2b 1 rfl rfl) rfl) ⟨ds, e1, e2⟩) fun u H9 xz kz ⟨d, hd, e⟩ => ?_
    subst e
    rw [(below_inv e3).1] at hd
    exact fin (x' := B.step x (.hand v)) (o := _) (xx.trans xz) kz hd (.int _) (g5b.mono xz) (g6b.mono xz) .non rfl rfl
  · -- send
    refine q_par (P1 := vP R (.str "send")) (P2 := vP R .non) (n := m) (m := m) k1 (eva_cons ((ev_at rfl h2a 0 rfl rfl).imp fun v H' _ ⟨d, hd, e⟩ => by subst e; exact dq_str hd) (eva_cons (ev_c fun _ => rfl) eva_nil)) fun v7 v8 H2 x2 k2 e7 e8 => ?_
    cases (show v7 = _ from e7)
    cases (show v8 = _ from e8)
    refine q_ifF k2 (evt_str (w := "send") rfl) (by decide) fun H3 x3 k3 => ?_
    refine s_ifT k3 (evt_str (w := "send") rfl) (by decide) fun H4 x4 k4 => ?_
    have xx := (((x1.trans x2).trans x3).trans x4)
    have y12 := ((x2.trans x3).trans x4)
    have h0b := h0.mono xx
    have h2b := h2.mono xx
    have g5b := g5.mono y12
    have g6b := g6.mono y12
    refine s_asgG (n := m) (m := m) k4 (ev_tkE (ev_at rfl h0b 1 rfl rfl) (ev_dvar rfl (.int _)) (ev_dvar rfl g5b) W.a O.S.tl sm.f) fun u H9 xz kz ⟨d, hd, e⟩ => ?_
    subst e
    obtain ⟨bl, ys, rfl, hT2, hA2⟩ := dq_tup hd
    obtain ⟨y1, y2, rfl, i1, i2⟩ := dqa2 hA2
    refine ⟨bl, _, rfl, hT2, rfl, _, _, rfl, _, _, rfl, rfl, ?_⟩
    rw [(below_inv (O.tb W.a)).1] at i1
    exact fin (x' := B.step x (.send)) (o := _) (xx.trans xz) kz i1 (.int _) i2 (g6b.mono xz) .non rfl rfl
  · -- answer
    refine q_par (P1 := vP R (.str "answer")) (P2 := vP R .non) (n := m) (m := m) k1 (eva_cons ((ev_at rfl h2a 0 rfl rfl).imp fun v H' _ ⟨d, hd, e⟩ => by subst e; exact dq_str hd) (eva_cons (ev_c fun _ => rfl) eva_nil)) fun v7 v8 H2 x2 k2 e7 e8 => ?_
    cases (show v7 = _ from e7)
    cases (show v8 = _ from e8)
    refine q_ifF k2 (evt_str (w := "answer") rfl) (by decide) fun H3 x3 k3 => ?_
    refine s_ifF k3 (evt_str (w := "answer") rfl) (by decide) fun H4 x4 k4 => ?_
    refine s_ifT k4 (evt_str (w := "answer") rfl) (by decide) fun H5 x5 k5 => ?_
    have xx := ((((x1.trans x2).trans x3).trans x4).trans x5)
    have y12 := (((x2.trans x3).trans x4).trans x5)
    have h0b := h0.mono xx
    have h2b := h2.mono xx
    have g5b := g5.mono y12
    have g6b := g6.mono y12
    refine s_asgG (n := m) (m := m) k5 (ev_tkE (ev_at rfl h0b 2 rfl rfl) (ev_dvar rfl (.int _)) (ev_dvar rfl g6b) W.b O.R.tl sm.g) fun u H9 xz kz ⟨d, hd, e⟩ => ?_
    subst e
    obtain ⟨bl, ys, rfl, hT2, hA2⟩ := dq_tup hd
    obtain ⟨y1, y2, rfl, i1, i2⟩ := dqa2 hA2
    refine ⟨bl, _, rfl, hT2, rfl, _, _, rfl, _, _, rfl, rfl, ?_⟩
    rw [(below_inv (O.tb' W.b)).1] at i1
    exact fin (x' := B.step x (.answer)) (o := _) (xx.trans xz) kz (.int _) i1 (g5b.mono xz) i2 .non rfl rfl
  · -- passF
    refine q_par (P1 := vP R (.str "pass")) (P2 := vP R .non) (n := m) (m := m) k1 (eva_cons ((ev_at rfl h2a 0 rfl rfl).imp fun v H' _ ⟨d, hd, e⟩ => by subst e; exact dq_str hd) (eva_cons (ev_c fun _ => rfl) eva_nil)) fun v7 v8 H2 x2 k2 e7 e8 => ?_
    cases (show v7 = _ from e7)
    cases (show v8 = _ from e8)
    refine q_ifF k2 (evt_str (w := "pass") rfl) (by decide) fun H3 x3 k3 => ?_
    refine s_ifF k3 (evt_str (w := "pass") rfl) (by decide) fun H4 x4 k4 => ?_
    refine s_ifF k4 (evt_str (w := "pass") rfl) (by decide) fun H5 x5 k5 => ?_
    refine s_ifT k5 (evt_andT ((evt_str (z := "pass") (w := "pass") rfl).imp fun b e => e.trans (by decide)) (evt_test (ev_strD (ev_at rfl ((((h2a.mono x2).mono x3).mono x4).mono x5) 1 rfl rfl)))) (by decide) fun H6 x6 k6 => ?_
    have xx := (((((x1.trans x2).trans x3).trans x4).trans x5).trans x6)
    have y12 := ((((x2.trans x3).trans x4).trans x5).trans x6)
    have h0b := h0.mono xx
    have h2b := h2.mono xx
    have g5b := g5.mono y12
    have g6b := g6.mono y12
    have hm := below_inv (W.f _ (head_of C))
    have hh : ∀ {σ : L2.St} {H' : Hp} {m : Nat} {v : V}, σ[5]? = some (some v) → Dq K R.M H' v (.tuple x.f) → Ev R m m (tOp (rIx K) (tVar 5) (tC (.int 0))) σ H' (iP R (· = ((fi (at_ x.f 0) : Nat) : Int))) := fun h1 h2 => ev_intOf (ev_at h1 h2 0 rfl (at_get (List.length_pos_iff.mpr C))) hm.1
    obtain ⟨ds, e1, e2, e3, e4⟩ := gifts_at (O.gb' W.b) hm.2
    obtain ⟨es, i1, i2, i3, i4⟩ := states_at (O.hb' W.b) hm.2
    refine q_asg (n := m) (m := m) k6 (ev_nthS (i := fi (at_ x.f 0)) (ev_nth (i := x.b) (ev_ixN (ev_at rfl (h0b) 2 rfl rfl) 3 rfl rfl) (ev_ivar rfl) (by rw [O.R.gl]; exact W.b)) (hh rfl g5b) ⟨ds, e1, e2⟩) fun u H8 xy ky ⟨d, hdv, e⟩ => ?_
    subst e
    refine s_par (n := m) (m := m) ky (eva_cons (ev_nthS (i := fi (at_ x.f 0)) (ev_nth (i := x.b) (ev_ixN (ev_at rfl (h0b.mono xy) 2 rfl rfl) 2 rfl rfl) (ev_ivar rfl) (by rw [O.R.hl]; exact W.b)) (hh rfl (g5b.mono xy)) ⟨es, i1, i2⟩) (eva_cons (ev_tailE rfl (g5b.mono xy) C) eva_nil)) fun ub uf H9 xw kz ⟨d1, hd1, e1⟩ ⟨d2, hd2, e2⟩ => ?_
    subst e1 e2
    rw [(below_inv i3).1] at hd1
    have xz := xy.trans xw
    exact fin (x' := B.step x (.passF)) (o := _) (xx.trans xz) kz (.int _) hd1 hd2 (g6b.mono xz) (hdv.mono xw) rfl rfl
  · -- passB
    refine q_par (P1 := vP R (.str "pass")) (P2 := vP R .non) (n := m) (m := m) k1 (eva_cons ((ev_at rfl h2a 0 rfl rfl).imp fun v H' _ ⟨d, hd, e⟩ => by subst e; exact dq_str hd) (eva_cons (ev_c fun _ => rfl) eva_nil)) fun v7 v8 H2 x2 k2 e7 e8 => ?_
    cases (show v7 = _ from e7)
    cases (show v8 = _ from e8)
    refine q_ifF k2 (evt_str (w := "pass") rfl) (by decide) fun H3 x3 k3 => ?_
    refine s_ifF k3 (evt_str (w := "pass") rfl) (by decide) fun H4 x4 k4 => ?_
    refine s_ifF k4 (evt_str (w := "pass") rfl) (by decide) fun H5 x5 k5 => ?_
    refine s_ifF k5 (evt_andT ((evt_str (z := "pass") (w := "pass") rfl).imp fun b e => e.trans (by decide)) (evt_test (ev_strD (ev_at rfl ((((h2a.mono x2).mono x3).mono x4).mono x5) 1 rfl rfl)))) (by decide) fun H6 x6 k6 => ?_
    refine s_ifT k6 (evt_str (w := "pass") rfl) (by decide) fun H7 x7 k7 => ?_
    have xx := ((((((x1.trans x2).trans x3).trans x4).trans x5).trans x6).trans x7)
    have y12 := (((((x2.trans x3).trans x4).trans x5).trans x6).trans x7)
    have h0b := h0.mono xx
    have h2b := h2.mono xx
    have g5b := g5.mono y12
    have g6b := g6.mono y12
    have hm := below_inv (W.g _ (head_of C))
    have hh : ∀ {σ : L2.St} {H' : Hp} {m : Nat} {v : V}, σ[6]? = some (some v) → Dq K R.M H' v (.tuple x.g) → Ev R m m (tOp (rIx K) (tVar 6) (tC (.int 0))) σ H' (iP R (· = ((fi (at_ x.g 0) : Nat) : Int))) := fun h1 h2 => ev_intOf (ev_at h1 h2 0 rfl (at_get (List.length_pos_iff.mpr C))) hm.1
    obtain ⟨es, i1, i2, i3, i4⟩ := states_at (O.hb W.a) hm.2
    refine s_par (n := m) (m := m) k7 (eva_cons (ev_nthS (i := fi (at_ x.g 0)) (ev_nth (i := x.a) (ev_ixN (ev_at rfl (h0b) 1 rfl rfl) 2 rfl rfl) (ev_ivar rfl) (by rw [O.S.hl]; exact W.a)) (hh rfl g6b) ⟨es, i1, i2⟩) (eva_cons (ev_tailE rfl g6b C) eva_nil)) fun ub uf H9 xz kz ⟨d1, hd1, e1⟩ ⟨d2, hd2, e2⟩ => ?_
    subst e1 e2
    rw [(below_inv i3).1] at hd1
    exact fin (x' := B.step x (.passB)) (o := _) (xx.trans xz) kz hd1 (.int _) (g5b.mono xz) hd2 .non rfl rfl
  · -- loseF i
    rename_i i
    refine q_par (P1 := vP R (.str "lose")) (P2 := vP R .non) (n := m) (m := m) k1 (eva_cons ((ev_at rfl h2a 0 rfl rfl).imp fun v H' _ ⟨d, hd, e⟩ => by subst e; exact dq_str hd) (eva_cons (ev_c fun _ => rfl) eva_nil)) fun v7 v8 H2 x2 k2 e7 e8 => ?_
    cases (show v7 = _ from e7)
    cases (show v8 = _ from e8)
    refine q_ifF k2 (evt_str (w := "lose") rfl) (by decide) fun H3 x3 k3 => ?_
    refine s_ifF k3 (evt_str (w := "lose") rfl) (by decide) fun H4 x4 k4 => ?_
    refine s_ifF k4 (evt_str (w := "lose") rfl) (by decide) fun H5 x5 k5 => ?_
    refine s_ifF k5 (evt_andF (evt_str (z := "pass") (w := "lose") rfl |>.imp fun b e => e.trans (by decide))) (by decide) fun H6 x6 k6 => ?_
    refine s_ifF k6 (evt_str (w := "lose") rfl) (by decide) fun H7 x7 k7 => ?_
    refine s_ifT k7 (evt_andT ((evt_str (z := "lose") (w := "lose") rfl).imp fun b e => e.trans (by decide)) (evt_test (ev_strD (ev_at rfl ((((((h2a.mono x2).mono x3).mono x4).mono x5).mono x6).mono x7) 1 rfl rfl)))) (by decide) fun H8 x8 k8 => ?_
    have xx := (((((((x1.trans x2).trans x3).trans x4).trans x5).trans x6).trans x7).trans x8)
    have y12 := ((((((x2.trans x3).trans x4).trans x5).trans x6).trans x7).trans x8)
    have h0b := h0.mono xx
    have h2b := h2.mono xx
    have g5b := g5.mono y12
    have g6b := g6.mono y12
    refine s_asg (n := m) (m := m) k8 (ev_cut (i := i) rfl g5b (ev_intOf (ev_at rfl h2b 2 rfl rfl) rfl) C (by have := sm.f; omega)) fun u H9 xz kz ⟨d, hd, e⟩ => ?_
    subst e
    exact fin (x' := B.step x (.loseF i)) (o := _) (xx.trans xz) kz (.int _) (.int _) hd (g6b.mono xz) .non rfl rfl
  · -- loseB i
    rename_i i
    refine q_par (P1 := vP R (.str "lose")) (P2 := vP R .non) (n := m) (m := m) k1 (eva_cons ((ev_at rfl h2a 0 rfl rfl).imp fun v H' _ ⟨d, hd, e⟩ => by subst e; exact dq_str hd) (eva_cons (ev_c fun _ => rfl) eva_nil)) fun v7 v8 H2 x2 k2 e7 e8 => ?_
    cases (show v7 = _ from e7)
    cases (show v8 = _ from e8)
    refine q_ifF k2 (evt_str (w := "lose") rfl) (by decide) fun H3 x3 k3 => ?_
    refine s_ifF k3 (evt_str (w := "lose") rfl) (by decide) fun H4 x4 k4 => ?_
    refine s_ifF k4 (evt_str (w := "lose") rfl) (by decide) fun H5 x5 k5 => ?_
    refine s_ifF k5 (evt_andF (evt_str (z := "pass") (w := "lose") rfl |>.imp fun b e => e.trans (by decide))) (by decide) fun H6 x6 k6 => ?_
    refine s_ifF k6 (evt_str (w := "lose") rfl) (by decide) fun H7 x7 k7 => ?_
    refine s_ifF k7 (evt_andT ((evt_str (z := "lose") (w := "lose") rfl).imp fun b e => e.trans (by decide)) (evt_test (ev_strD (ev_at rfl ((((((h2a.mono x2).mono x3).mono x4).mono x5).mono x6).mono x7) 1 rfl rfl)))) (by decide) fun H8 x8 k8 => ?_
    refine s_ifT k8 (evt_str (w := "lose") rfl) (by decide) fun H9 x9 k9 => ?_
    have xx := ((((((((x1.trans x2).trans x3).trans x4).trans x5).trans x6).trans x7).trans x8).trans x9)
    have y12 := (((((((x2.trans x3).trans x4).trans x5).trans x6).trans x7).trans x8).trans x9)
    have h0b := h0.mono xx
    have h2b := h2.mono xx
    have g5b := g5.mono y12
    have g6b := g6.mono y12
    refine s_asg (n := m) (m := m) k9 (ev_cut (i := i) rfl g6b (ev_intOf (ev_at rfl h2b 2 rfl rfl) rfl) C (by have := sm.g; omega)) fun u H9 xz kz ⟨d, hd, e⟩ => ?_
    subst e
    exact fin (x' := B.step x (.loseB i)) (o := _) (xx.trans xz) kz (.int _) (.int _) (g5b.mono xz) hd .non rfl rfl
  · -- crashS
    refine q_par (P1 := vP R (.str "crash")) (P2 := vP R .non) (n := m) (m := m) k1 (eva_cons ((ev_at rfl h2a 0 rfl rfl).imp fun v H' _ ⟨d, hd, e⟩ => by subst e; exact dq_str hd) (eva_cons (ev_c fun _ => rfl) eva_nil)) fun v7 v8 H2 x2 k2 e7 e8 => ?_
    cases (show v7 = _ from e7)
    cases (show v8 = _ from e8)
    refine q_ifF k2 (evt_str (w := "crash") rfl) (by decide) fun H3 x3 k3 => ?_
    refine s_ifF k3 (evt_str (w := "crash") rfl) (by decide) fun H4 x4 k4 => ?_
    refine s_ifF k4 (evt_str (w := "crash") rfl) (by decide) fun H5 x5 k5 => ?_
    refine s_ifF k5 (evt_andF (evt_str (z := "pass") (w := "crash") rfl |>.imp fun b e => e.trans (by decide))) (by decide) fun H6 x6 k6 => ?_
    refine s_ifF k6 (evt_str (w := "crash") rfl) (by decide) fun H7 x7 k7 => ?_
    refine s_ifF k7 (evt_andF (evt_str (z := "lose") (w := "crash") rfl |>.imp fun b e => e.trans (by decide))) (by decide) fun H8 x8 k8 => ?_
    refine s_ifF k8 (evt_str (w := "crash") rfl) (by decide) fun H9 x9 k9 => ?_
    refine s_ifT k9 (evt_test (ev_strD (ev_at rfl ((((((((h2a.mono x2).mono x3).mono x4).mono x5).mono x6).mono x7).mono x8).mono x9) 1 rfl rfl))) (by decide) fun H10 x10 k10 => ?_
    have xx := (((((((((x1.trans x2).trans x3).trans x4).trans x5).trans x6).trans x7).trans x8).trans x9).trans x10)
    have y12 := ((((((((x2.trans x3).trans x4).trans x5).trans x6).trans x7).trans x8).trans x9).trans x10)
    have h0b := h0.mono xx
    have h2b := h2.mono xx
    have g5b := g5.mono y12
    have g6b := g6.mono y12
    refine s_asg (n := m) (m := m) k10 (ev_nth (i := x.a) (ev_ixN (ev_at rfl (h0b) 1 rfl rfl) 4 rfl rfl) (ev_ivar rfl) (by rw [O.S.rl]; exact W.a)) fun u H9 xz kz ⟨d, hd, e⟩ => ?_
    subst e
    rw [(below_inv (O.rb W.a)).1] at hd
    exact fin (x' := B.step x (.crashS)) (o := _) (xx.trans xz) kz hd (.int _) (g5b.mono xz) (g6b.mono xz) .non rfl rfl
  · -- crashR
    refine q_par (P1 := vP R (.str "crash")) (P2 := vP R .non) (n := m) (m := m) k1 (eva_cons ((ev_at rfl h2a 0 rfl rfl).imp fun v H' _ ⟨d, hd, e⟩ => by subst e; exact dq_str hd) (eva_cons (ev_c fun _ => rfl) eva_nil)) fun v7 v8 H2 x2 k2 e7 e8 => ?_
    cases (show v7 = _ from e7)
    cases (show v8 = _ from e8)
    refine q_ifF k2 (evt_str (w := "crash") rfl) (by decide) fun H3 x3 k3 => ?_
    refine s_ifF k3 (evt_str (w := "crash") rfl) (by decide) fun H4 x4 k4 => ?_
    refine s_ifF k4 (evt_str (w := "crash") rfl) (by decide) fun H5 x5 k5 => ?_
    refine s_ifF k5 (evt_andF (evt_str (z := "pass") (w := "crash") rfl |>.imp fun b e => e.trans (by decide))) (by decide) fun H6 x6 k6 => ?_
    refine s_ifF k6 (evt_str (w := "crash") rfl) (by decide) fun H7 x7 k7 => ?_
    refine s_ifF k7 (evt_andF (evt_str (z := "lose") (w := "crash") rfl |>.imp fun b e => e.trans (by decide))) (by decide) fun H8 x8 k8 => ?_
    refine s_ifF k8 (evt_str (w := "crash") rfl) (by decide) fun H9 x9 k9 => ?_
    refine s_ifF k9 (evt_test (ev_strD (ev_at rfl ((((((((h2a.mono x2).mono x3).mono x4).mono x5).mono x6).mono x7).mono x8).mono x9) 1 rfl rfl))) (by decide) fun H10 x10 k10 => ?_
    have xx := (((((((((x1.trans x2).trans x3).trans x4).trans x5).trans x6).trans x7).trans x8).trans x9).trans x10)
    have y12 := ((((((((x2.trans x3).trans x4).trans x5).trans x6).trans x7).trans x8).trans x9).trans x10)
    have h0b := h0.mono xx
    have h2b := h2.mono xx
    have g5b := g5.mono y12
    have g6b := g6.mono y12
    refine s_asg (n := m) (m := m) k10 (ev_nth (i := x.b) (ev_ixN (ev_at rfl (h0b) 2 rfl rfl) 4 rfl rfl) (ev_ivar rfl) (by rw [O.R.rl]; exact W.b)) fun u H9 xz kz ⟨d, hd, e⟩ => ?_
    subst e
    rw [(below_inv (O.rb' W.b)).1] at hd
    exact fin (x' := B.step x (.crashR)) (o := _) (xx.trans xz) kz (.int _) hd (g5b.mono xz) (g6b.mono xz) .non rfl rfl
end
end LW

set_option Elab.async false
set_option linter.all false
set_option maxRecDepth 100000
set_option maxHeartbeats 8000000
namespace LW
open PySem PySem.Spec PyProof.Rows L2 LamX NdefX WE WLam WQ
section
variable {K : PySem.W.Frag} {R : Rs} {σ : L2.St} {H H' H0 H1 : Hp} {n m k : Nat} {ta tb te : TE} {tl : TA} {t u tt : TT} {D : Ends} {tz tu tw : TS} {g : TG} {P : Rp R} {l ds : List PyData} {d : PyData} {pl : List PyData → Prop}
/-- a comprehension over data, item by item -/
theorem lc_data {vs : List Nat} {f : PyData → PyData} {c : PyData → Bool} {J : It} {G : Hp → Prop} {Y : Nat → Hp → V → Hp → Prop} {xs : List V} (w : Walk J xs.length G Y) (hY : ∀ i H y H', Y i H y H' → H' = H ∧ xs[i]? = some y) (hG : ∀ H', Xt R H1 H' → G H') (hA : DqAll K R.M H1 xs l) (hl : l.length ≤ 100000) (hi : ∀ d ∈ l, c d = true → imm (f d) = true)
    (hs : ∀ (d : PyData) (v : V) (H2 : Hp), d ∈ l → Xt R H1 H2 → Dq K R.M H2 v d → ∃ σ2, (∀ Q2 : L2.St → Hp → Prop, Q2 σ2 H2 → g v (wipe σ vs) H2 Q2) ∧ wipe σ2 vs = wipe σ vs ∧ EvT R m m tt σ2 H2 (· = c d) ∧ (c d = true → Ev R m m te σ2 H2 (dP K R (· = f d))))
    (k1 : Ok R m H1) {Da : Addr} (hD : H1 Da = none) {Q : VK} (q : ∀ H2, Ok R m H2 → AccAt K R H1 Da ((l.filter c).map f) H2 → Q (.ref Da) H2) :
    ∃ W : Nat → Nat → Hp → Prop, (∃ m, W 0 m (upd H1 Da (.lst []))) ∧ ∀ i m H, W i m H →
      (J.stop i H ∧ Q (.ref Da) H) ∨ (J.go i H ∧ ∃ Nx : Hp → Prop, (∀ H', Nx H' → ∃ m', m' < m ∧ W (i + 1) m' H') ∧ ∀ x H', J.yld i H x H' → g x (wipe σ vs) H' fun σ2 H2 => wipe σ2 vs = wipe σ vs ∧ tt σ2 H2 fun b H3 =>
        if b = true then te σ2 H3 fun y H4 => ∃ acc, H4 Da = some (.lst acc) ∧ acc.length < sizeLine ∧ Nx (upd H4 Da (.lst (acc ++ [y]))) else Nx H3) := by
  have nD := k1.fresh hD
  have lx := hA.length
  refine lc_it w (fun i H' => ∃ acc, H' Da = some (.lst acc) ∧ acc.length ≤ i ∧ Xt R H1 H' ∧ Ok R m H' ∧ DqAll K R.M H' acc (((l.take i).filter c).map f) ∧ immAll (((l.take i).filter c).map f) = true) ⟨[], upd_same, Nat.le_refl _, .new hD, k1.new hD, .nil, rfl⟩ (fun i H' _ ⟨_, _, _, x', _⟩ => hG H' x') (fun i y H3 H4 hlt ⟨acc, e1, la, x3, k3, d3, im⟩ yy => ?_) (fun H3 ⟨acc, e1, la, x3, k3, d3, im⟩ => ?_)
  · obtain ⟨e4, e5⟩ := hY i H3 y H4 yy
    subst e4
    obtain ⟨d', q1, q2⟩ := (hA.mono x3).getV e5
    have hm := List.mem_of_getElem? q1
    obtain ⟨σ2, s1, s2, s3, s4⟩ := hs d' y H4 hm x3 q2
    refine s1 _ ⟨s2, ?_⟩
    refine s3 H4 (.refl _) k3 _ fun b H5 x5 k5 e => ?_
    subst e
    have e1' : H5 Da = some (.lst acc) := x5.keep Da _ e1 nD (fun _ z => nomatch z)
    have et : ((l.take (i + 1)).filter c).map f = ((l.take i).filter c).map f ++ ([d'].filter c).map f := by
      rw [List.take_succ, q1, List.filter_append, List.map_append] <;> rfl
    cases hf : c d' with
    | true =>
      refine iteT (s4 hf H5 x5 k5 _ fun v H6 x6 k6 ⟨d6, hd6, e6⟩ => ?_)
      subst e6
      have e1'' : H6 Da = some (.lst acc) := x6.keep Da _ e1' nD (fun _ z => nomatch z)
      have t : Tx H6 (upd H6 Da (.lst (acc ++ [v]))) := .lst e1''
      have ei := hi d' hm hf
      refine ⟨acc, e1'', Nat.lt_of_le_of_lt la (Nat.lt_of_lt_of_le (by omega) (show 200000 ≤ sizeLine by decide)), acc ++ [v], upd_same, by rw [List.length_append]; show acc.length + 1 ≤ _; omega, ((x3.trans x5).trans x6).own hD, ok_lst k6 e1'' nD, ?_, ?_⟩
      · rw [et, show ([d'].filter c).map f = [f d'] from by rw [List.filter_cons, hf] <;> rfl]
        exact (d3.imm ((x5.trans x6).tx.trans t) im).append (.cons (hd6.imm t ei) .nil)
      · rw [et, show ([d'].filter c).map f = [f d'] from by rw [List.filter_cons, hf] <;> rfl]
        refine immAll_mem fun z hz => ?_
        rcases List.mem_append.mp hz with y1 | y1
        · exact immAll_get im z y1
        · rw [List.mem_singleton.mp y1]
          exact ei
    | false =>
      have et2 : ((l.take (i + 1)).filter c).map f = ((l.take i).filter c).map f := by
        rw [et, show ([d'].filter c).map f = [] from by rw [List.filter_cons, hf] <;> rfl, List.append_nil]
      refine iteF ⟨acc, e1', by omega, x3.trans x5, k5, ?_, ?_⟩
      · rw [et2]
        exact d3.mono x5
      · rw [et2]
        exact im
  · rw [lx, List.take_length] at d3 im
    exact q H3 k3 ⟨hD, x3, nD, im, acc, e1, d3⟩
theorem ev_lcT2 {vs : List Nat} {f : PyData → PyData} {c : PyData → Bool} (h : Ev R n m ta σ H (dP K R (· = .tuple l))) (hl : l.length ≤ 100000) (hi : ∀ d ∈ l, c d = true → imm (f d) = true)
    (hs : ∀ (d : PyData) (v : V) (H2 : Hp), d ∈ l → Xt R H H2 → Dq K R.M H2 v d → ∃ σ2, (∀ Q2 : L2.St → Hp → Prop, Q2 σ2 H2 → g v (wipe σ vs) H2 Q2) ∧ wipe σ2 vs = wipe σ vs ∧ EvT R m m tt σ2 H2 (· = c d) ∧ (c d = true → Ev R m m te σ2 H2 (dP K R (· = f d)))) :
    Ev R n m (tLc (iTup K ta) g tt te vs) σ H (lP K R (· = (l.filter c).map f)) := fun H1 x z Q q =>
  h H1 x z _ fun v H2 x2 k2 ⟨d, hd, e⟩ => by
    subst e
    obtain ⟨a, xs, rfl, hT, hA⟩ := dq_tup hd
    exact ⟨a, rfl, ⟨xs, hT⟩, fun Da hD => lc_data (walk_tup (K := K) (a := a) (xs := xs)) (fun i H y H' yy => yy) (fun H' x' => x'.seqT hT) hA hl hi (fun d v H3 hm x3 hv => hs d v H3 hm ((x.trans x2).trans x3) hv) k2 hD fun H3 k3 A => q _ H3 (x2.trans A.xt) k3 (A.lP rfl)⟩
theorem ev_lcL2 {vs : List Nat} {f : PyData → PyData} {c : PyData → Bool} (h : Ev R n m ta σ H (dP K R (· = .list l))) (hl : l.length ≤ 100000) (hi : ∀ d ∈ l, c d = true → imm (f d) = true)
    (hs : ∀ (d : PyData) (v : V) (H2 : Hp), d ∈ l → Xt R H H2 → Dq K R.M H2 v d → ∃ σ2, (∀ Q2 : L2.St → Hp → Prop, Q2 σ2 H2 → g v (wipe σ vs) H2 Q2) ∧ wipe σ2 vs = wipe σ vs ∧ EvT R m m tt σ2 H2 (· = c d) ∧ (c d = true → Ev R m m te σ2 H2 (dP K R (· = f d)))) :
    Ev R n m (tLc (iList K ta) g tt te vs) σ H (lP K R (· = (l.filter c).map f)) := fun H1 x z Q q =>
  h H1 x z _ fun v H2 x2 k2 ⟨d, hd, e⟩ => by
    subst e
    obtain ⟨a, xs, rfl, hT, hn, hA⟩ := dq_lst hd
    exact ⟨a, rfl, ⟨xs, hT⟩, fun Da hD => lc_data (walk_list (K := K) (a := a) (xs := xs)) (fun i H y H' yy => yy) (fun H' x' => x'.seqL hT hn) hA hl hi (fun d v H3 hm x3 hv => hs d v H3 hm ((x.trans x2).trans x3) hv) k2 hD fun H3 k3 A => q _ H3 (x2.trans A.xt) k3 (A.lP rfl)⟩
theorem _root_.WE.AccAt.pull {Da : Addr} {es : List PyData} (A : AccAt K R H1 Da es H') (x : Xt R H H1) : AccAt K R H Da es H' := ⟨x.mon _ A.new, x.trans A.xt, A.nm, A.im, A.ex⟩
/-- a list of data that H0 had not -/
def aP (K : PySem.W.Frag) (R : Rs) (H0 : Hp) (ds : List PyData) : Rp R := ⟨fun v H => ∃ D, v = .ref D ∧ AccAt K R H0 D ds H, fun _ _ _ x ⟨D, e, A⟩ => ⟨D, e, A.go x⟩⟩
theorem aP_lP {H0 : Hp} {v : V} (h : (aP K R H0 ds).r v H) : (lP K R (· = ds)).r v H := by
  obtain ⟨D, e, A⟩ := h
  subst e
  exact A.lP rfl
theorem ev_lcL2A {vs : List Nat} {f : PyData → PyData} {c : PyData → Bool} (h : Ev R n m ta σ H (dP K R (· = .list l))) (hl : l.length ≤ 100000) (hi : ∀ d ∈ l, c d = true → imm (f d) = true)
    (hs : ∀ (d : PyData) (v : V) (H2 : Hp), d ∈ l → Xt R H H2 → Dq K R.M H2 v d → ∃ σ2, (∀ Q2 : L2.St → Hp → Prop, Q2 σ2 H2 → g v (wipe σ vs) H2 Q2) ∧ wipe σ2 vs = wipe σ vs ∧ EvT R m m tt σ2 H2 (· = c d) ∧ (c d = true → Ev R m m te σ2 H2 (dP K R (· = f d)))) :
    Ev R n m (tLc (iList K ta) g tt te vs) σ H (aP K R H ((l.filter c).map f)) := fun H1 x z Q q =>
  h H1 x z _ fun v H2 x2 k2 ⟨d, hd, e⟩ => by
    subst e
    obtain ⟨a, xs, rfl, hT, hn, hA⟩ := dq_lst hd
    exact ⟨a, rfl, ⟨xs, hT⟩, fun Da hD => lc_data (walk_list (K := K) (a := a) (xs := xs)) (fun i H y H' yy => yy) (fun H' x' => x'.seqL hT hn) hA hl hi (fun d v H3 hm x3 hv => hs d v H3 hm ((x.trans x2).trans x3) hv) k2 hD fun H3 k3 A => q _ H3 (x2.trans A.xt) k3 ⟨_, rfl, A.pull (x.trans x2)⟩⟩
theorem evt_yes : EvT R m m tYes σ H (· = true) := fun H1 x1 k1 Q q => q true H1 (.refl _) k1 rfl
/-- [f(i) for i in range(n)] -/
theorem ev_lcRI {j : Nat} {vs : List Nat} {nn : Nat} {f : Nat → PyData} (h : Ev R n m ta σ H (iP R (· = ((nn : Nat) : Int)))) (hn : nn ≤ 100000) (hw : ∀ x, wipe ((wipe σ vs).set j (some x)) vs = wipe σ vs) (hi : ∀ i, imm (f i) = true)
    (he : ∀ (i : Nat) (H2 : Hp), i < nn → Xt R H H2 → ∀ {m : Nat}, Ev R m m te ((wipe σ vs).set j (some (.int (i : Int)))) H2 (dP K R (· = f i))) : Ev R n m (tLc (iRng1 (tCons ta tNil)) (gName j) tYes te vs) σ H (lP K R (· = (List.range nn).map f)) := fun H1 x z Q q =>
  h H1 x z _ fun v H2 x2 k2 ⟨i, ei, hpi⟩ => by
    have hpi : i = ((nn : Nat) : Int) := hpi
    subst ei hpi
    refine ⟨_, rfl, by omega, by omega, fun Da hD => lc_ev (K := K) (m := m) (c := 0) (pe := fun i e => e = f i) (walk_range (lo := 0) (n := nn)) (fun i H x H' y => y.1) (fun H' x' => trivial) hn hw (fun i e hh => by rw [hh]; exact hi i) (fun i' y H3 H4 hlt x3 yy => ?_) (k2.mono (by simp)) hD fun v H3 x3 k3 ⟨a1, xs1, es, g0, gn, gh, gd, g2, g3⟩ => q v H3 (x2.trans x3) k3 ⟨a1, xs1, es, g0, gn, gh, gd, ?_⟩⟩
    · obtain ⟨_, q2⟩ := yy
      subst q2
      intro q'
      have e0 : (0 : Int) + ((i' : Nat) : Int) = ((i' : Nat) : Int) := Int.zero_add _
      show Ev R _ _ te (List.set (wipe σ vs) j (some (V.int ((0 : Int) + ((i' : Nat) : Int))))) H3 _
      rw [e0]
      exact he i' H3 hlt ((x.trans x2).trans x3)
    · refine List.ext_getElem (by rw [g2, List.length_map, List.length_range]) fun i h1 h2 => ?_
      rw [List.getElem_map, List.getElem_range]
      exact g3 i _ (List.getElem?_eq_getElem h1)
/-- xs * int(b) -/
theorem ev_repB {b : Bool} {es : List PyData} (ha : Ev R n k ta σ H (lP K R (· = es))) (hb : Ev R k m tb σ H (iP R (· = if b then 1 else 0))) (hl : es.length ≤ 1000) : Ev R n m (tOp rRep ta tb) σ H (lP K R (· = if b then es else [])) :=
  ev_op ha hb fun x y H1 _ k ⟨a, xs, ds, e, na, h, d, q⟩ ⟨i, ei, hi⟩ Q z => by
    have q : ds = es := q
    have hi : i = if b then 1 else 0 := hi
    subst e ei q
    have lx := d.length
    cases b with
    | true =>
      have hi : i = 1 := hi
      subst hi
      refine ⟨a, 1, xs, rfl, rfl, h, by decide, by decide, Nat.le_trans (show xs.length * 1 ≤ 1000 by omega) (show 1000 ≤ sizeLine by decide), fun p hp => ?_⟩
      have xn : Xt R H1 (upd H1 p (.lst (List.replicate (1 : Int).toNat xs).flatten)) := .new hp
      have e : (List.replicate (1 : Int).toNat xs).flatten = xs := by show (List.replicate 1 xs).flatten = xs; simp
      rw [e] at xn ⊢
      exact z _ _ xn (k.new hp) ⟨p, xs, ds, rfl, k.fresh hp, upd_same, d.mono xn, rfl⟩
    | false =>
      have hi : i = 0 := hi
      subst hi
      refine ⟨a, 0, xs, rfl, rfl, h, by decide, by decide, Nat.le_trans (show xs.length * 0 ≤ 1000 by omega) (show 1000 ≤ sizeLine by decide), fun p hp => ?_⟩
      exact z _ _ (.new hp) (k.new hp) ⟨p, [], [], rfl, k.fresh hp, upd_same, .nil, rfl⟩
theorem ev_l0 : Ev R n n (tLst tNil) σ H (lP K R (· = [])) := ev_lst eva_nil (by show 0 ≤ 1000; decide) fun p vs H1 _ hn hp r => by
  have e : vs = [] := r
  subst e
  exact ⟨p, [], [], rfl, hn, hp, .nil, rfl⟩
/-- a written list of data -/
theorem ev_lLst (ds : List PyData) (h : EvA R n m tl σ H ((ds.map fun d e => e = d).map (dP K R))) (hl : ds.length ≤ 1000) : Ev R n m (tLst tl) σ H (lP K R (· = ds)) :=
  ev_lst h (by rw [List.length_map, List.length_map]; exact hl) fun p vs H1 _ hn hp r => by
    obtain ⟨es, e1, e2, _⟩ := allR_D r
    exact ⟨p, vs, es, rfl, hn, hp, e1, allD_eq e2⟩
theorem ev_catLK {ds es fs : List PyData} (ha : Ev R n k ta σ H (lP K R (· = ds))) (hb : Ev R k m tb σ H (lP K R (· = es))) (h1 : ds.length ≤ 100000) (h2 : es.length ≤ 100000) (hf : ds ++ es = fs) : Ev R n m (tOp rCat ta tb) σ H (lP K R (· = fs)) :=
  (ev_catL ha hb (fun ds e => by rw [show ds = _ from e]; exact h1) (fun ds e => by rw [show ds = _ from e]; exact h2)).imp fun v H' _ ⟨a, xs, es', e, n1, h, d, ds', fs', e1, e2, e3⟩ => ⟨a, xs, es', e, n1, h, d, by rw [e3, show ds' = _ from e1, show fs' = _ from e2]; exact hf⟩
theorem ev_lD {ds : List PyData} (h : Ev R n m te σ H (lP K R (· = ds))) : Ev R n m te σ H (dP K R (· = .list ds)) := (ev_ofL h).imp fun v H' _ ⟨d, hd, es, e, e2⟩ => ⟨d, hd, by rw [e, e2]⟩
/-- for i, x in enumerate(y) -/
theorem q_enumV {i : Nat} {v : V} (kk : Ok R m H) (x0 : Xt R H0 H) (hv : σ[i]? = some (some v)) (hd : Dq K R.M H0 v d) (hs : d = .tuple ds ∨ d = .list ds)
    (z : ∃ Pv : Nat → L2.St → Hp → Prop, Pv 0 σ H ∧ (∀ i σ' H', Pv i σ' H' → Xt R H0 H') ∧
      (∀ (i : Nat) (d : PyData) (v : V) (σ' : L2.St) (H' : Hp) (U : Addr), ds[i]? = some d → Pv i σ' H' → H' U = none → Dq K R.M H' v d → g (.ref U) σ' (upd H' U (.tup [.int (i : Nat), v])) fun σ2 H2 => tu { D with nx := Pv (i + 1), ct := Pv (i + 1), bk := tz D } σ2 H2) ∧
      ∀ σ' H', Pv ds.length σ' H' → tz D σ' H') : tSeq (tFor (WEnum.iEnumA K (tCons (tVar i) tNil)) g tu) tz D σ H := by
  obtain ⟨Pv, z0, z1, z2, z3⟩ := z
  have main : ∀ {J : It} {xs : List V} {G : Hp → Prop}, Walk J xs.length G (YPair (fun i => some (.int (i : Nat))) (fun i => xs[i]?)) → (∀ H', Xt R H0 H' → G H') → DqAll K R.M H0 xs ds →
      ∃ W : Nat → Nat → L2.St → Hp → Prop, (∃ m, W 0 m σ H) ∧ ∀ i m σ H, W i m σ H →
      (J.stop i H ∧ tz D σ H) ∨ (J.go i H ∧ ∃ N : L2.St → Hp → Prop, (∀ σ' H', N σ' H' → ∃ m', m' < m ∧ W (i + 1) m' σ' H') ∧ ∀ x H', J.yld i H x H' → g x σ H' fun σ2 H2 => tu { D with nx := N, ct := N, bk := tz D } σ2 H2) := by
    intro J xs G w hG hA
    refine for_it (D := { D with nx := tz D }) w Pv z0 (fun i σ' H' _ q => hG H' (z1 i σ' H' q)) (fun i x σ' H' H'' hi q y => ?_) (fun σ' H' q => z3 σ' H' (by rw [← hA.length]; exact q))
    obtain ⟨U, a, b, rfl, hU, rfl, e1, e2⟩ := y
    cases e1
    obtain ⟨d', q1, q2⟩ := (hA.mono (z1 i σ' H' q)).getV e2
    exact z2 i d' b σ' H' U q1 q hU q2
  refine ⟨_, hv, ?_⟩
  rcases hs with e | e
  · subst e
    obtain ⟨a, xs, rfl, h1, h2⟩ := dq_tup hd
    exact ⟨a, xs, rfl, .inr ⟨x0.seqT h1, main (WEnum.walk_enumT (K := K) (a := a) (xs := xs)) (fun H' x => x.seqT h1) h2⟩⟩
  · subst e
    obtain ⟨a, xs, rfl, h1, hn, h2⟩ := dq_lst hd
    exact ⟨a, xs, rfl, .inl ⟨x0.seqL h1 hn, main (walk_enum (K := K) (a := a) (xs := xs)) (fun H' x => x.seqL h1 hn) h2⟩⟩
end
end LW

set_option Elab.async false
set_option linter.all false
set_option maxRecDepth 100000
set_option maxHeartbeats 8000000
namespace LW
open PySem PySem.Spec PyProof.Rows L2 LamX NdefX WE WLam WQ
theorem eqv_nil {ds : List PyData} : PyData.eqv (.tuple ds) (.tuple []) = ds.isEmpty := by cases ds <;> simp [PyData.eqv, PyData.eqvAll]
theorem map_evt (B : Tb) (x : Sd) : (B.deeds x).map Evt.d = ((((((if B.free x then (List.range B.a.toNat).map (fun v : Nat => PyData.tuple [.str "hand", .int (v : Int)]) else []) ++ [.tuple [.str "send"], .tuple [.str "answer"]]) ++ (if !x.f.isEmpty then [.tuple [.str "pass", .str "forward"]] else [])) ++ (if !x.g.isEmpty then [.tuple [.str "pass", .str "backward"]] else [])) ++ (List.range x.f.length).map (fun i : Nat => PyData.tuple [.str "lose", .str "forward", .int (i : Int)])) ++ (List.range x.g.length).map (fun i : Nat => PyData.tuple [.str "lose", .str "backward", .int (i : Int)])) ++ [.tuple [.str "crash", .str "sender"], .tuple [.str "crash", .str "receiver"]] := by
  unfold Tb.deeds
  cases B.free x <;> cases x.f.isEmpty <;> cases x.g.isEmpty <;> simp [Evt.d, Function.comp_def]
theorem Tb.deeds_len (B : Tb) (x : Sd) : (B.deeds x).length ≤ B.a.toNat + x.f.length + x.g.length + 6 := by
  unfold Tb.deeds
  simp only [List.length_append, List.length_map, List.length_range]
  have h1 : (if B.free x = true then (List.range B.a.toNat).map Evt.hand else []).length ≤ B.a.toNat := by split <;> simp
  have h2 : (if x.f.isEmpty = true then ([] : List Evt) else [.passF]).length ≤ 1 := by split <;> simp
  have h3 : (if x.g.isEmpty = true then ([] : List Evt) else [.passB]).length ≤ 1 := by split <;> simp
  simp only [List.length_cons, List.length_nil]
  omega
theorem imm_evt {e : Evt} : imm e.d = true := by cases e <;> rfl
theorem lay_str {k : Nat} {z : Str} (h : PyData.strOk z = true) : Lay k (.str z) := ⟨by unfold PyData.canLay0; exact h, by unfold PyData.depth; exact Nat.zero_le _⟩
theorem lay_evt {e : Evt} : Lay 1 e.d := by
  cases e <;> exact lay_tup fun d hd => by
    simp only [List.mem_cons, List.mem_nil_iff, or_false] at hd
    first
      | (rcases hd with rfl | rfl | rfl <;> first | exact lay_int | exact lay_str (by decide +kernel))
      | (rcases hd with rfl | rfl <;> first | exact lay_int | exact lay_str (by decide +kernel))
      | (subst hd; exact lay_str (by decide +kernel))
section
variable {K : PySem.W.Frag} {R : Rs} {σ : L2.St} {H : Hp} {n m : Nat} {te : TE} {t : TT} {D : Ends} {tz : TS} {P : Rp R} {p : Bool → Prop}
theorem q_ifJ {i : Nat} (k : WE.Ok R n H) (h : EvT R n m t σ H p) (hA : p true → ∀ H1, Xt R H H1 → WE.Ok R m H1 → Ev R m m te σ H1 P) (hB : p false → ∃ v, σ[i]? = some (some v) ∧ ∀ H1, Xt R H H1 → P.r v H1) (q : ∀ v H1, Xt R H H1 → WE.Ok R m H1 → P.r v H1 → tz D (σ.set i (some v)) H1) :
    tSeq (tIfS t (tAsg te (gName i)) tNext) tz D σ H := q_if k h (fun hp H1 x1 k1 => s_asg k1 (hA hp H1 x1 k1) fun v H2 x2 k2 r => q v H2 (x1.trans x2) k2 r) fun hp H1 x1 k1 => by
  obtain ⟨v, h1, h2⟩ := hB hp
  have := q v H1 x1 k1 (h2 H1 x1)
  have e : σ.set i (some v) = σ := by
    obtain ⟨hl, e⟩ := List.getElem?_eq_some_iff.mp h1
    rw [← e]
    exact List.set_getElem_self hl
  rw [e] at this
  exact this
end
section
variable {P : Program} {w : World} {K : PySem.W.Frag} {mg : Str → Option Value} {base : Heap} {T : List (Addr × Str)}
/-! ### _law_deeds */ -/
theorem sc_law_deeds : FnScope ["raw", "stand", "found", "value", "at"] ["raw", "stand"] (defScope s_law_deeds) := ⟨rfl, rfl, rfl, by decide +kernel, rfl, by decide +kernel, by decide +kernel⟩
def SpDe (T : List (Addr × Str)) (K : PySem.W.Frag) : Sp := fun vs H Q _ => vs.length = 2 ∧ ∃ (R : Rs) (m : Nat) (B : Tb) (x : Sd), R.T = T ∧ WE.Ok R m H ∧ DqAll K R.M H vs [B.raw, x.d] ∧ B.Ok ∧ B.Wf x ∧ x.Sm ∧
  ∀ v H', Xt R H H' → WE.Ok R m H' → (lP K R (· = (B.deeds x).map Evt.d)).r v H' → Q v H'
theorem ok_law_deeds (D : Def1 K mg "_law_deeds" s_law_deeds) (B : Bl mg) : Cal P w K mg base CX0 1 "_law_deeds" ["raw", "stand"] (SpDe T K) := by
  refine cal_of D sc_law_deeds (fun _ _ _ _ _ _ us hl => match us, hl with | [_, _], _ => rfl) (fun vs H Q E h => h.1) (fun f cdv A outer s0 H vs Q E hr hh => ?_)
  obtain ⟨_, R, m, Tt, x, rfl, ok, hd, O, W, sm, q⟩ := hh
  obtain ⟨v0, v1, rfl, h0, h1⟩ := dqa2 hd
  have hfl := sm.f
  have hgl := sm.g
  have a1 := O.sz.1.1
  have a64 := O.sz.1.2
  have ea : ((Tt.a.toNat : Nat) : Int) = Tt.a := by omega
  refine ⟨_, pss_cons (ps_set (i := 2) sc_law_deeds.nd rfl (.inl rfl) (pe_lst pa_nil))
    (pss_cons (ps_if (pt_cmpR op_notN (pe_ix (r := rIx K) ix_seq (pe_ix (r := rIx K) ix_seq (pe_ix (r := rIx K) ix_seq (pv 0) pe_int (fun _ _ => rfl)) pe_int (fun _ _ => rfl)) (pe_ix (r := rIx K) ix_seq (pv 1) pe_int (fun _ _ => rfl)) (fun _ _ => rfl)) pe_non (nomark _)) (pss_one (ps_setLc (i := 2) (own := [("value", 3)]) (g := gName 3) (tt := tYes) (te := tTup (tCons (tC (.str "hand")) (tCons (tVar 3) tNil))) (by rfl) sc_law_deeds.nd rfl rfl (sw_true rfl rfl rfl (by decide +kernel)) (pi_range1 (by rfl) B.range (pa_cons (pe_ix (r := rIx K) ix_seq (pe_ix (r := rIx K) ix_seq (pv 0) pe_int (fun _ _ => rfl)) pe_int (fun _ _ => rfl)) pa_nil)) (blkOk_by (N := ["raw", "stand", "found", "value", "at"]) (sc := defScope s_law_deeds) (by decide +kernel)) (fun _ _ _ _ _ => pg_name (i := 3) sc_law_deeds.nd rfl (Or.inl rfl)) (fun _ _ _ _ _ => pts_nil) (fun _ _ _ _ _ => (pe_tup (pa_cons pe_str (pa_cons (pv 3) pa_nil)))))) pss_nil)
    (pss_cons (ps_set (i := 2) sc_law_deeds.nd rfl (.inl rfl) (pe_op op_cat (pe_op op_cat (pv 2) (pe_lst (pa_cons (pe_tup (pa_cons pe_str pa_nil)) (pa_cons (pe_tup (pa_cons pe_str pa_nil)) pa_nil)))) (pe_op op_rep (pe_lst (pa_cons (pe_tup (pa_cons pe_str (pa_cons pe_str pa_nil))) pa_nil)) (pe_callTy call_int1 (by rfl) B.int (by decide +kernel) (pa_cons (pe_cmpR (r := rNeD K) (op_neD hr.units) (pe_ix (r := rIx K) ix_seq (pv 1) pe_int (fun _ _ => rfl)) (pe_tup pa_nil) (nomark _)) pa_nil)))))
    (pss_cons (ps_set (i := 2) sc_law_deeds.nd rfl (.inl rfl) (pe_op op_cat (pv 2) (pe_op op_rep (pe_lst (pa_cons (pe_tup (pa_cons pe_str (pa_cons pe_str pa_nil))) pa_nil)) (pe_callTy call_int1 (by rfl) B.int (by decide +kernel) (pa_cons (pe_cmpR (r := rNeD K) (op_neD hr.units) (pe_ix (r := rIx K) ix_seq (pv 1) pe_int (fun _ _ => rfl)) (pe_tup pa_nil) (nomark _)) pa_nil)))))
    (pss_cons (ps_set (i := 2) sc_law_deeds.nd rfl (.inl rfl) (pe_op op_cat (pv 2) (pe_lc (own := [("at", 4)]) (g := gName 4) (tt := tYes) rfl sc_law_deeds.nd (pi_range1 (by rfl) B.range (pa_cons (pe_callB call_len_seq (by rfl) B.len PySem.boot_len (pa_cons (pe_ix (r := rIx K) ix_seq (pv 1) pe_int (fun _ _ => rfl)) pa_nil)) pa_nil)) (blkOk_by (N := ["raw", "stand", "found", "value", "at"]) (sc := defScope s_law_deeds) (by decide +kernel)) (fun _ _ _ _ _ => pg_name (i := 4) sc_law_deeds.nd rfl (Or.inl rfl)) (fun _ _ _ _ _ => pts_nil) (fun _ _ _ _ _ => (pe_tup (pa_cons pe_str (pa_cons pe_str (pa_cons (pv 4) pa_nil))))))))
    (pss_cons (ps_set (i := 2) sc_law_deeds.nd rfl (.inl rfl) (pe_op op_cat (pv 2) (pe_lc (own := [("at", 4)]) (g := gName 4) (tt := tYes) rfl sc_law_deeds.nd (pi_range1 (by rfl) B.range (pa_cons (pe_callB call_len_seq (by rfl) B.len PySem.boot_len (pa_cons (pe_ix (r := rIx K) ix_seq (pv 1) pe_int (fun _ _ => rfl)) pa_nil)) pa_nil)) (blkOk_by (N := ["raw", "stand", "found", "value", "at"]) (sc := defScope s_law_deeds) (by decide +kernel)) (fun _ _ _ _ _ => pg_name (i := 4) sc_law_deeds.nd rfl (Or.inl rfl)) (fun _ _ _ _ _ => pts_nil) (fun _ _ _ _ _ => (pe_tup (pa_cons pe_str (pa_cons pe_str (pa_cons (pv 4) pa_nil))))))))
    (pss_one (ps_ret (pe_op op_cat (pv 2) (pe_lst (pa_cons (pe_tup (pa_cons pe_str (pa_cons pe_str pa_nil))) (pa_cons (pe_tup (pa_cons pe_str (pa_cons pe_str pa_nil))) pa_nil))))))))))), ?_⟩
  have s1 : ∀ {z : Str} {σ : L2.St} {H' : Hp} {m : Nat}, Ev R m m (tTup (tCons (tC (.str z)) tNil)) σ H' (dP K R (· = .tuple [.str z])) := fun {z σ H' m} => ev_tupK [.str z] (eva_d ev_ds eva_nil) (by show 1 ≤ 1000; decide)
  have s2 : ∀ {z y : Str} {σ : L2.St} {H' : Hp} {m : Nat}, Ev R m m (tTup (tCons (tC (.str z)) (tCons (tC (.str y)) tNil))) σ H' (dP K R (· = .tuple [.str z, .str y])) := fun {z y σ H' m} => ev_tupK [.str z, .str y] (eva_d ev_ds (eva_d ev_ds eva_nil)) (by show 2 ≤ 1000; decide)
  refine q_asg (n := m) (m := m) (P := lP K R (· = [])) ok ev_l0 fun v2 H1 x1 k1 r1 => ?_
  generalize hF0 : (if Tt.free x then (List.range Tt.a.toNat).map (fun v : Nat => PyData.tuple [.str "hand", .int (v : Int)]) else []) = F0
  have lF0 : F0.length ≤ 64 := by
    subst hF0
    split
    · rw [List.length_map, List.length_range]
      omega
    · exact Nat.zero_le _

  refine q_ifJ (P := lP K R (· = F0)) (p := (· = Tt.free x)) k1 (evt_test ((ev_notN (ev_nth (i := x.a) (ds := Tt.k) (ev_ixN (ev_at rfl (h0.mono x1) 1 rfl rfl) 3 rfl rfl) (ev_intOf (ev_at rfl (h1.mono x1) 0 rfl rfl) rfl) (by rw [O.S.kl]; exact W.a))).imp fun v H' _ ⟨b, e, d, e1, e2⟩ => ⟨b, e, by rw [e2, show d = _ from e1]; rfl⟩)) (fun hb H2 x2 k2 => ?_) (fun hb => ⟨v2, rfl, fun H2 x2 => ?_⟩) fun v2' H2 x2 k2 r2 => ?_
  · have hb : true = Tt.free x := hb
    refine (ev_lcRI (nn := Tt.a.toNat) (f := fun v : Nat => PyData.tuple [.str "hand", .int (v : Int)]) (ev_asI (ev_ixN (ev_at rfl ((h0.mono x1).mono x2) 0 rfl rfl) 0 rfl rfl) fun d e => ⟨Tt.a, e, ea.symm⟩) (by omega) (fun _ => rfl) (fun _ => rfl) fun i H3 hi x3 => fun {m} => ev_tupK [.str "hand", .int (i : Int)] (eva_d ev_ds (eva_d (ev_dvar rfl (.int _)) eva_nil)) (by show 2 ≤ 1000; decide)).imp fun v H' _ ⟨a, xs, ds, e, n1, h, d, e2⟩ => ⟨a, xs, ds, e, n1, h, d, ?_⟩
    rw [show ds = _ from e2, ← hF0, ← hb]
    rfl
  · have hb : false = Tt.free x := hb
    obtain ⟨a, xs, ds, e, n1, h, d, e2⟩ := (lP K R (· = [])).mono _ _ _ x2 r1
    refine ⟨a, xs, ds, e, n1, h, d, ?_⟩
    rw [show ds = _ from e2, ← hF0, ← hb]
    rfl
  have h1b := (h1.mono x1).mono x2
  have lt1 : ∀ {j : Nat} {ds : List PyData} {z : Int} {σ : L2.St} {H' : Hp} {m : Nat}, σ[1]? = some (some v1) → Dq K R.M H' v1 x.d → z = (j : Int) → [PyData.int x.a, .int x.b, .tuple x.f, .tuple x.g][j]? = some (.tuple ds) → ds.length ≤ 1000 → (∀ d ∈ ds, Lay 0 d) → Ev R m m (tCB (fun xs H Q => (∃ i, xs = [.int i] ∧ Q (.int i) H) ∨ ∃ k, xs = [.bl k] ∧ Q (.int (if k then 1 else 0)) H) (tCons (tOp (rNeD K) (tOp (rIx K) (tVar 1) (tC (.int z))) (tTup tNil)) tNil)) σ H' (iP R (· = if !ds.isEmpty then 1 else 0)) := fun {j ds z σ H' m} hs hd hz hj hl hy =>
    (ev_intB (pb := (· = !ds.isEmpty)) ((ev_neL (ev_at hs hd j hz hj) (ev_tupK [] eva_nil (by show 0 ≤ 1000; decide)) ((lay_tup hy).mono (by decide)) ((lay_tup (k := 0) fun d h => by cases h).mono (by decide))).imp fun v H' _ ⟨b, e, e2⟩ => ⟨b, e, by rw [e2, eqv_nil]⟩)).imp fun v H' _ ⟨i, e, b, e2, e3⟩ => ⟨i, e, by rw [e3, show b = _ from e2]⟩
  have lyf : ∀ d ∈ x.f, Lay 0 d := fun d hd => lay_below (W.f d hd)
  have lyg : ∀ d ∈ x.g, Lay 0 d := fun d hd => lay_below (W.g d hd)
  have rv : ∀ {l : List PyData} {v : V} {H' : Hp} {σ : L2.St} {m : Nat}, (lP K R (· = l)).r v H' → σ[2]? = some (some v) → Ev R m m (tVar 2) σ H' (lP K R (· = l)) := fun r h => ev_var h r
  generalize hF1 : (F0 ++ [PyData.tuple [.str "send"], .tuple [.str "answer"]]) ++ (if !x.f.isEmpty then [.tuple [.str "pass", .str "forward"]] else []) = F1
  have lF1 : F1.length ≤ 70 := by
    subst hF1
    rw [List.length_append, List.length_append]
    have : (if (!x.f.isEmpty) = true then [PyData.tuple [.str "pass", .str "forward"]] else []).length ≤ 1 := by split <;> simp
    simp only [List.length_cons, List.length_nil]
    omega
  refine q_asg (n := m) (m := m) (P := lP K R (· = F1)) k2 (ev_catLK (ev_catLK (rv r2 rfl) (ev_lLst [.tuple [.str "send"], .tuple [.str "answer"]] (eva_d s1 (eva_d s1 eva_nil)) (by show 2 ≤ 1000; decide)) (by omega) (by show 2 ≤ 100000; decide) rfl) (ev_repB (b := !x.f.isEmpty) (ev_lLst [.tuple [.str "pass", .str "forward"]] (eva_d s2 eva_nil) (by show 1 ≤ 1000; decide)) (lt1 (j := 2) rfl h1b rfl rfl hfl lyf) (by show 1 ≤ 1000; decide)) (by rw [List.length_append]; simp only [List.length_cons, List.length_nil]; omega) (by split <;> simp) hF1) fun v3 H3 x3 k3 r3 => ?_
  have h1c := h1b.mono x3
  generalize hF2 : F1 ++ (if !x.g.isEmpty then [PyData.tuple [.str "pass", .str "backward"]] else []) = F2
  have lF2 : F2.length ≤ 71 := by
    subst hF2
    rw [List.length_append]
    have : (if (!x.g.isEmpty) = true then [PyData.tuple [.str "pass", .str "backward"]] else []).length ≤ 1 := by split <;> simp
    omega
  refine q_asg (n := m) (m := m) (P := lP K R (· = F2)) k3 (ev_catLK (rv r3 rfl) (ev_repB (b := !x.g.isEmpty) (ev_lLst [.tuple [.str "pass", .str "backward"]] (eva_d s2 eva_nil) (by show 1 ≤ 1000; decide)) (lt1 (j := 3) rfl h1c rfl rfl hgl lyg) (by show 1 ≤ 1000; decide)) (by omega) (by split <;> simp) hF2) fun v4 H4 x4 k4 r4 => ?_
  have h1d := h1c.mono x4
  have lc : ∀ {z : Str} {nn : Nat} {te : TE} {σ : L2.St} {H' : Hp} {m : Nat}, nn ≤ 1000 → Ev R m m te σ H' (iP R (· = ((nn : Nat) : Int))) → (∀ x, wipe ((wipe σ [4]).set 4 (some x)) [4] = wipe σ [4]) → (∀ x, ((wipe σ [4]).set 4 (some x))[4]? = some (some x)) → Ev R m m (tLc (iRng1 (tCons te tNil)) (gName 4) tYes (tTup (tCons (tC (.str "lose")) (tCons (tC (.str z)) (tCons (tVar 4) tNil)))) [4]) σ H' (lP K R (· = (List.range nn).map fun i : Nat => PyData.tuple [.str "lose", .str z, .int (i : Int)])) := fun {z nn te σ H' m} hn h hw hj =>
    ev_lcRI (f := fun i : Nat => PyData.tuple [.str "lose", .str z, .int (i : Int)]) h (by omega) hw (fun _ => rfl) fun i H2 hi x2 => fun {m} => ev_tupK [.str "lose", .str z, .int (i : Int)] (eva_d ev_ds (eva_d ev_ds (eva_d (ev_dvar (hj _) (.int _)) eva_nil))) (by show 3 ≤ 1000; decide)
  refine q_asg (n := m) (m := m) (P := lP K R (· = F2 ++ (List.range x.f.length).map fun i : Nat => PyData.tuple [.str "lose", .str "forward", .int (i : Int)])) k4 (ev_catLK (rv r4 rfl) (lc hfl (ev_lenK (ev_at rfl h1d 2 rfl rfl)) (fun _ => rfl) (fun _ => rfl)) (by omega) (by rw [List.length_map, List.length_range]; omega) rfl) fun v5 H5 x5 k5 r5 => ?_
  refine q_asg (n := m) (m := m) (P := lP K R (· = (F2 ++ (List.range x.f.length).map fun i : Nat => PyData.tuple [.str "lose", .str "forward", .int (i : Int)]) ++ (List.range x.g.length).map fun i : Nat => PyData.tuple [.str "lose", .str "backward", .int (i : Int)])) k5 (ev_catLK (rv r5 rfl) (lc hgl (ev_lenK (ev_at rfl (h1d.mono x5) 3 rfl rfl)) (fun _ => rfl) (fun _ => rfl)) (by rw [List.length_append, List.length_map, List.length_range]; omega) (by rw [List.length_map, List.length_range]; omega) rfl) fun v6 H6 x6 k6 r6 => ?_
  refine s_ret (m := m) k6 (ev_catLK (fs := (Tt.deeds x).map Evt.d) (rv r6 rfl) (ev_lLst [.tuple [.str "crash", .str "sender"], .tuple [.str "crash", .str "receiver"]] (eva_d s2 (eva_d s2 eva_nil)) (by show 2 ≤ 1000; decide)) (by rw [List.length_append, List.length_append, List.length_map, List.length_map, List.length_range, List.length_range]; omega) (by show 2 ≤ 100000; decide) ?_) fun v7 H7 x7 k7 r7 => q v7 H7 (x1.trans (x2.trans (x3.trans (x4.trans (x5.trans (x6.trans x7)))))) k7 r7
  rw [map_evt, hF0, hF1, hF2]
end
end LW

set_option Elab.async false
set_option linter.all false
set_option maxRecDepth 100000
set_option maxHeartbeats 8000000
namespace LW
open PySem PySem.Spec PyProof.Rows L2 LamX NdefX WE WLam WQ
section
variable {K : PySem.W.Frag} {R : Rs} {σ : L2.St} {H H' H0 : Hp} {n m k l : Nat} {ta tb te : TE} {tl : TA} {t u : TT} {Dn : Ends} {tz : TS} {P1 : Rp R} {ds : List PyData} {B : Tb} {x : Sd} {e : Evt}
theorem q_parAcc {i j : Nat} (kk : WE.Ok R n H) (h : Ev R n m te σ H P1) (q : ∀ v D H1 H', Xt R H H1 → WE.Ok R m H' → AccAt K R H1 D [] H' → P1.r v H' → tz Dn ((σ.set i (some v)).set j (some (.ref D))) H') : tSeq (tPar i j (tCons te (tCons (tLst tNil) tNil))) tz Dn σ H :=
  h H (.refl _) kk _ fun v H1 x1 k1 r => ⟨Nat.zero_le _, fun D hD => ⟨v, .ref D, rfl, q v D H1 _ x1 (k1.new hD) ⟨hD, .new hD, k1.fresh hD, rfl, [], upd_same, .nil⟩ (P1.mono _ _ _ (.new hD) r)⟩⟩
theorem imm_stand (W : B.Wf x) : imm x.d = true := by
  have h1 : immAll x.f = true := immAll_mem fun d hd => imm_below (W.f d hd)
  have h2 : immAll x.g = true := immAll_mem fun d hd => imm_below (W.g d hd)
  simp [Sd.d, imm, immAll, h1, h2]
theorem ev_stE (h1 : Ev R n k ta σ H (dP K R (· = B.raw))) (h2 : Ev R k l tb σ H (dP K R (· = x.d))) (h3 : Ev R l m te σ H (dP K R (· = e.d))) (O : B.Ok) (W : B.Wf x) (C : B.Can x e) (sm : x.Sm) :
    Ev R n m (tCall (SpSt R.T K) [] E0 (tCons ta (tCons tb (tCons te tNil)))) σ H (dP K R (· = .tuple [(B.step x e).d, B.gift x e])) :=
  ev_call (Ps := [(· = B.raw), (· = x.d), (· = e.d)].map (dP K R)) (eva_d h1 (eva_d h2 (eva_d h3 eva_nil))) fun vs H1 x1 k1 r1 Q q => by
    obtain ⟨ds, g1, ⟨_, _, rfl, rfl, _, _, rfl, rfl, _, _, rfl, rfl, rfl⟩, g3⟩ := allR_D r1
    exact ⟨g3, R, m, B, x, e, rfl, k1, g1, O, W, C, sm, fun v H' x' k' hd => q v H' x' k' ⟨_, hd, rfl⟩⟩
theorem ev_deE (h1 : Ev R n k ta σ H (dP K R (· = B.raw))) (h2 : Ev R k m tb σ H (dP K R (· = x.d))) (O : B.Ok) (W : B.Wf x) (sm : x.Sm) :
    Ev R n m (tCall (SpDe R.T K) [] E0 (tCons ta (tCons tb tNil))) σ H (lP K R (· = (B.deeds x).map Evt.d)) :=
  ev_call (Ps := [(· = B.raw), (· = x.d)].map (dP K R)) (eva_d h1 (eva_d h2 eva_nil)) fun vs H1 x1 k1 r1 Q q => by
    obtain ⟨ds, g1, ⟨_, _, rfl, rfl, _, _, rfl, rfl, rfl⟩, g3⟩ := allR_D r1
    exact ⟨g3, R, m, B, x, rfl, k1, g1, O, W, sm, q⟩
theorem ev_lenL (h : Ev R n m te σ H (dP K R (· = .list ds))) : Ev R n m (tCB (fun vs H Q => ∃ (a : Addr) (xs : List V), vs = [V.ref a] ∧ (SqL K H a xs ∨ SqT K H a xs) ∧ Q (.int (xs.length : Int)) H) (tCons te tNil)) σ H (iP R (· = (ds.length : Int))) :=
  (ev_len h fun d e => ⟨ds, .inr e⟩).imp fun v H' _ ⟨z, e, d, es, e1, e2, e3⟩ => ⟨z, e, by
    subst e1
    rcases e2 with e2 | e2
    · cases e2
    · cases e2
      exact e3⟩
theorem ev_d0 : Ev R m m (tTup (tCons (tC (.int 0)) (tCons (tC (.int 0)) (tCons (tTup tNil) (tCons (tTup tNil) tNil))))) σ H (dP K R (· = Sd.init.d)) :=
  ev_tupK [.int 0, .int 0, .tuple [], .tuple []] (eva_d ev_di (eva_d ev_di (eva_d (ev_tupK [] eva_nil (by show 0 ≤ 1000; decide)) (eva_d (ev_tupK [] eva_nil (by show 0 ≤ 1000; decide)) eva_nil)))) (by show 4 ≤ 1000; decide)
theorem evs_at {es : List Evt} {i : Nat} {d : PyData} (h : (es.map Evt.d)[i]? = some d) : ∃ e, es[i]? = some e ∧ d = e.d := by
  rw [List.getElem?_map] at h
  cases q : es[i]? with
  | none => rw [q] at h; cases h
  | some e => rw [q] at h; exact ⟨e, rfl, (Option.some.inj h).symm⟩
theorem take_snoc {α : Type} {es : List α} {i : Nat} {e : α} (h : es[i]? = some e) : es.take (i + 1) = es.take i ++ [e] := by
  rw [List.take_succ, h] <;> rfl
theorem sm_walk {es : List Evt} (h : es.length ≤ 500) : (B.walk Sd.init es).Sm := by
  have := B.walk_len (es := es) (x := Sd.init)
  have e1 : Sd.init.f.length = 0 := rfl
  have e2 : Sd.init.g.length = 0 := rfl
  exact ⟨by omega, by omega⟩
end
section
variable {P : Program} {w : World} {K : PySem.W.Frag} {mg : Str → Option Value} {base : Heap} {T : List (Addr × Str)}
/-! ### _law_walk -/
theorem sc_law_walk : FnScope ["raw", "deeds", "stand", "found", "at", "deed", "value"] ["raw", "deeds"] (defScope s_law_walk) := ⟨rfl, rfl, rfl, by decide +kernel, rfl, by decide +kernel, by decide +kernel⟩
def SpWk (T : List (Addr × Str)) (K : PySem.W.Frag) : Sp := fun vs H Q _ => vs.length = 2 ∧ ∃ (R : Rs) (m : Nat) (B : Tb) (es : List Evt) (d : PyData), R.T = T ∧ WE.Ok R m H ∧ DqAll K R.M H vs [B.raw, d] ∧ (d = .tuple (es.map Evt.d) ∨ d = .list (es.map Evt.d)) ∧ B.Ok ∧ B.Run Sd.init es ∧ es.length ≤ 500 ∧
  ∀ v H', Xt R H H' → WE.Ok R m H' → Dq K R.M H' v (.tuple [(B.walk Sd.init es).d, .list (founds 0 (B.outs Sd.init es))]) → Q v H'
theorem ok_law_walk (D : Def1 K mg "_law_walk" s_law_walk) (Bl : Bl mg) (C1 : Cal P w K mg base CX0 2 "_law_step" ["raw", "stand", "deed"] (SpSt T K)) : Cal P w K mg base CX0 3 "_law_walk" ["raw", "deeds"] (SpWk T K) := by
  refine cal_of D sc_law_walk (fun _ _ _ _ _ _ us hl => match us, hl with | [_, _], _ => rfl) (fun vs H Q E h => h.1) (fun f cdv A outer s0 H vs Q E hr hh => ?_)
  obtain ⟨_, R, m, B, es, d, rfl, ok, hd, hs, O, hR, hz, q⟩ := hh
  obtain ⟨v0, v1, rfl, h0, h1⟩ := dqa2 hd
  refine ⟨_, pss_cons (ps_par (i := 2) (j := 3) rfl sc_law_walk.nd rfl rfl (by decide) rfl rfl (pa_cons (pe_tup (pa_cons pe_int (pa_cons pe_int (pa_cons (pe_tup pa_nil) (pa_cons (pe_tup pa_nil) pa_nil))))) (pa_cons (pe_lst pa_nil) pa_nil)) (by rfl))
    (pss_cons (ps_for PassesOwn.never rfl (WEnum.pi_enumA (by rfl) Bl.enumerate (pa_cons (pv 1) pa_nil)) (pg_tup rfl (pgs_cons (pg_name (i := 4) sc_law_walk.nd rfl (.inl rfl)) (pgs_cons (pg_name (i := 5) sc_law_walk.nd rfl (.inl rfl)) pgs_nil)))
      (pss_cons (ps_asg (pe_cal C1 hr (by decide) (by rfl) pass0 (pa_cons (pv 0) (pa_cons (pv 2) (pa_cons (pv 5) pa_nil)))) (pg_tup rfl (pgs_cons (pg_name (i := 2) sc_law_walk.nd rfl (.inl rfl)) (pgs_cons (pg_name (i := 6) sc_law_walk.nd rfl (.inl rfl)) pgs_nil))))
      (pss_one (ps_if (pt_cmpR op_notN (pv 6) pe_non (nomark _)) (pss_one (ps_expr (pe_bm PySem.F.plainAttrs_list PySem.F.slot_list_append PySem.F.type_list_append mt_append (pv 3) (pa_cons (pe_tup (pa_cons (pv 4) (pa_cons (pv 6) pa_nil))) pa_nil)))) pss_nil))))
    (pss_one (ps_ret (pe_tup (pa_cons (pv 2) (pa_cons (pv 3) pa_nil)))))), ?_⟩
  refine q_parAcc (K := K) (n := m) (m := m) (P1 := dP K R (· = Sd.init.d)) ok ev_d0 fun v2 Da H1 H2 x1 k2 A2 ⟨d2, hd2, e2⟩ => ?_
  subst e2
  refine q_enumV (K := K) (H0 := H1) (d := d) (ds := es.map Evt.d) k2 A2.xt rfl (h1.mono x1) hs ⟨fun i σ' H' => ∃ v2 y4 y5 y6, σ' = [some v0, some v1, some v2, some (.ref Da), y4, y5, y6] ∧ AccAt K R H1 Da (founds 0 (B.outs Sd.init (es.take i))) H' ∧ WE.Ok R m H' ∧ Dq K R.M H' v2 (B.walk Sd.init (es.take i)).d,
    ⟨v2, none, none, none, rfl, A2, k2, hd2⟩, fun i σ' H' ⟨_, _, _, _, _, A, _⟩ => A.xt, fun i d5 v5 σ' H' U hi ⟨u2, y4, y5, y6, eσ, A, k', hd'⟩ hU hv5 => ?_, fun σ' H' ⟨u2, y4, y5, y6, eσ, A, k', hd'⟩ => ?_⟩
  · subst eσ
    obtain ⟨ev, he, rfl⟩ := evs_at hi
    have xn : Xt R H' (upd H' U (.tup [.int (i : Nat), v5])) := .new hU
    have kn := k'.new (o := .tup [.int (i : Nat), v5]) hU
    have An := A.go xn
    have hv5' := hv5.mono xn
    have hd'' := hd'.mono xn
    refine ⟨U, _, rfl, .inl (.inl upd_same), rfl, _, _, rfl, _, _, rfl, rfl, ?_⟩
    have Wi := O.walk O.init (B.run_take i hR)
    have Ci := B.run_at hR he
    have smi : (B.walk Sd.init (es.take i)).Sm := sm_walk (by rw [List.length_take]; omega)
    refine q_asgT (n := m) (m := m) kn (ev_stE (ev_dvar rfl (((h0.mono x1).mono A.xt).mono xn)) (ev_dvar rfl hd'') (ev_dvar rfl hv5') O Wi Ci smi) fun v7 H3 x3 k3 ⟨d7, hd7, e7⟩ => ?_
    subst e7
    obtain ⟨al, xs, rfl, hT, hA⟩ := dq_tup hd7
    obtain ⟨u8, u9, rfl, g8, g9⟩ := dqa2 hA
    refine ⟨al, _, rfl, hT, rfl, _, _, rfl, _, _, rfl, rfl, ?_⟩
    have A3 := An.go x3
    have et : es.take (i + 1) = es.take i ++ [ev] := take_snoc he
    have ew : B.walk Sd.init (es.take (i + 1)) = B.step (B.walk Sd.init (es.take i)) ev := by rw [et, B.walk_snoc]
    have ef : founds 0 (B.outs Sd.init (es.take (i + 1))) = founds 0 (B.outs Sd.init (es.take i)) ++ (if isNonD (B.gift (B.walk Sd.init (es.take i)) ev) then [] else [.tuple [.int (i : Nat), B.gift (B.walk Sd.init (es.take i)) ev]]) := by
      have el : (es.take i).length = i := by
        rw [List.length_take]
        have := (List.getElem?_eq_some_iff.mp he).1
        omega
      rw [et, B.outs_snoc, founds_snoc, B.outs_len, el, Nat.zero_add]
    have Wn := O.step Wi Ci
    refine s_if (p := (· = !isNonD (B.gift (B.walk Sd.init (es.take i)) ev))) k3 (evt_test ((ev_notN (ev_dvar rfl g9)).imp fun v H' _ ⟨b, e, d, e1, e2⟩ => ⟨b, e, by rw [e2, show d = _ from e1]⟩)) (fun hb H4 x4 k4 => ?_) fun hb H4 x4 k4 => ?_
    · have hb : true = !isNonD (B.gift (B.walk Sd.init (es.take i)) ev) := hb
      have hn : isNonD (B.gift (B.walk Sd.init (es.take i)) ev) = false := by
        cases h : isNonD (B.gift (B.walk Sd.init (es.take i)) ev) with
        | true => rw [h] at hb; cases hb
        | false => rfl
      have ig : imm (B.gift (B.walk Sd.init (es.take i)) ev) = true := by
        cases ev with
        | passF =>
          obtain ⟨_, _, _, h2, _⟩ := gifts_at (O.gb' Wi.b) (below_inv (Wi.f _ (head_of Ci))).2
          exact imm_nonBelow h2
        | _ => rfl
      have lf : (founds 0 (B.outs Sd.init (es.take i))).length < 100000 := by
        have h : ∀ {os : List PyData} {j : Nat}, (founds j os).length ≤ os.length := by
          intro os
          induction os with
          | nil => intro j; exact Nat.le_refl _
          | cons o os ih =>
            intro j
            unfold founds
            have := ih (j := j + 1)
            split
            · rw [List.length_cons]; omega
            · rw [List.length_cons, List.length_cons]; omega
        have := h (os := B.outs Sd.init (es.take i)) (j := 0)
        rw [B.outs_len, List.length_take] at this
        omega
      refine s_app (K := K) (p := (· = .tuple [.int (i : Nat), B.gift (B.walk Sd.init (es.take i)) ev])) (m := m) k4 (A3.go x4) rfl (ev_tupK [.int (i : Nat), B.gift (B.walk Sd.init (es.take i)) ev] (eva_d (ev_dvar rfl (.int _)) (eva_d (ev_dvar rfl (g9.mono x4)) eva_nil)) (by show 2 ≤ 1000; decide)) (fun d e => ?_) lf fun d H5 ed k5 A5 keep => ?_
      · rw [show d = _ from e]
        simp [imm, immAll, ig]
      · refine ⟨_, _, _, _, rfl, ?_, k5, ?_⟩
        · rw [ef, hn]
          rw [show d = _ from ed] at A5
          exact A5
        · rw [ew]
          exact keep (g8.mono x4) (imm_stand Wn)
    · have hb : false = !isNonD (B.gift (B.walk Sd.init (es.take i)) ev) := hb
      have hn : isNonD (B.gift (B.walk Sd.init (es.take i)) ev) = true := by
        cases h : isNonD (B.gift (B.walk Sd.init (es.take i)) ev) with
        | true => rfl
        | false => rw [h] at hb; cases hb
      refine ⟨_, _, _, _, rfl, ?_, k4, ?_⟩
      · rw [ef, hn]
        rw [if_pos rfl, List.append_nil]
        exact A3.go x4
      · rw [ew]
        exact g8.mono x4
  · subst eσ
    rw [List.length_map, List.take_length] at A hd'
    refine s_ret (m := m) k' (ev_tupK (K := K) [(B.walk Sd.init es).d, .list (founds 0 (B.outs Sd.init es))] (eva_d (ev_dvar rfl hd') (eva_d (ev_dvar rfl A.dq) eva_nil)) (by show 2 ≤ 1000; decide)) fun v H3 x3 k3 ⟨d, hd, e⟩ => ?_
    subst e
    exact q v H3 (x1.trans (A.xt.trans x3)) k3 hd
end
end LW

set_option Elab.async false
set_option linter.all false
set_option maxRecDepth 100000
set_option maxHeartbeats 8000000
namespace LW
open PySem PySem.Spec PyProof.Rows L2 LamX NdefX WE WLam WQ
/-- no event that is lost, no crash -/
def calmD : PyData → Bool
  | .tuple (.str z :: _) => !(decide (z = "lose") || decide (z = "crash"))
  | _ => true
section
variable {K : PySem.W.Frag} {R : Rs} {σ : L2.St} {H H' H0 : Hp} {n m k l : Nat} {ta tb te : TE} {e : Evt} {ds : List PyData}
theorem evt_calm {i : Nat} {v : V} (hv : σ[i]? = some (some v)) (hd : Dq K R.M H v e.d) : EvT R m m (tTest (tOp (rIn K true) (tOp (rIx K) (tVar i) (tC (.int 0))) (tTup (tCons (tC (.str "lose")) (tCons (tC (.str "crash")) tNil))))) σ H (· = calmD e.d) := by
  have main : ∀ {w : Str} {ds : List PyData}, e.d = .tuple (.str w :: ds) → (!inV (.str w) [.str "lose", .str "crash"]) = (!(decide (w = "lose") || decide (w = "crash"))) → EvT R m m (tTest (tOp (rIn K true) (tOp (rIx K) (tVar i) (tC (.int 0))) (tTup (tCons (tC (.str "lose")) (tCons (tC (.str "crash")) tNil))))) σ H (· = !(decide (w = "lose") || decide (w = "crash"))) := by
    intro w ds he hw
    rw [he] at hd
    refine evt_test ?_
    refine ev_op (P1 := vP R (.str w)) (P2 := ⟨fun v H => ∃ p, v = .ref p ∧ H p = some (.tup [.str "lose", .str "crash"]), fun _ _ _ x ⟨p, e, h⟩ => ⟨p, e, x.tup p _ h⟩⟩) ((ev_at hv hd 0 rfl rfl).imp fun v H' _ ⟨d, hd, e⟩ => by subst e; exact dq_str hd) (ev_tup (Ps := [vP R (.str "lose"), vP R (.str "crash")]) (eva_cons (ev_c fun _ => rfl) (eva_cons (ev_c fun _ => rfl) eva_nil)) (by show 2 ≤ 1000; decide) fun p vs H1 _ hp r => ?_) fun x y H1 x1 k1 ex ⟨p, ey, hp⟩ Q q => ?_
    · obtain ⟨_, _, rfl, rfl, _, _, rfl, rfl, rfl⟩ := r
      exact ⟨p, rfl, hp⟩
    · cases (show x = _ from ex)
      subst ey
      exact ⟨p, _, rfl, .inr (.inl (.inl hp)), rfl, rfl, q _ H1 (.refl _) k1 ⟨_, rfl, hw⟩⟩
  cases e with
  | _ => exact main rfl (by decide +kernel)
end
theorem filter_evt {l : List Evt} : (l.map Evt.d).filter calmD = (l.filter fun e => calmD e.d).map Evt.d := by
  rw [List.filter_map] <;> rfl
section
variable {P : Program} {w : World} {K : PySem.W.Frag} {mg : Str → Option Value} {base : Heap} {T : List (Addr × Str)}
theorem send_mem {B : Tb} {x : Sd} : Evt.send ∈ B.deeds x := by
  unfold Tb.deeds
  simp
/-! ### _law_led -/
theorem sc_law_led : FnScope ["purse", "raw", "many", "stand", "found", "lap", "some", "likely", "deed"] ["purse", "raw", "many"] (defScope s_law_led) := ⟨rfl, rfl, rfl, by decide +kernel, rfl, by decide +kernel, by decide +kernel⟩
def SpLd (T : List (Addr × Str)) (K : PySem.W.Frag) : Sp := fun vs H Q _ => vs.length = 3 ∧ ∃ (p : Addr) (kk : Nat) (v : V) (B : Tb) (nn : Nat), vs = [.ref p, v, .int (nn : Int)] ∧ WE.Ok (RP T p) (kk + 200) H ∧ Dq K (RP T p).M H v B.raw ∧ B.Ok ∧ nn ≤ 60 ∧
  ∀ es D H', es.length = nn → B.Run Sd.init es → WE.Ok (RP T p) kk H' → AccAt K (RP T p) H D (es.map Evt.d) H' → Q (.ref D) H'
theorem ok_law_led (D : Def1 K mg "_law_led" s_law_led) (Bl : Bl mg) (CD : Cal P w K mg base CX0 2 "_law_draw" ["purse", "out_of"] (SpDr T)) (C1 : Cal P w K mg base CX0 2 "_law_step" ["raw", "stand", "deed"] (SpSt T K)) (C2 : Cal P w K mg base CX0 1 "_law_deeds" ["raw", "stand"] (SpDe T K)) : Cal P w K mg base CX0 3 "_law_led" ["purse", "raw", "many"] (SpLd T K) := by
  refine cal_of D sc_law_led (fun _ _ _ _ _ _ us hl => match us, hl with | [_, _, _], _ => rfl) (fun vs H Q E h => h.1) (fun f cdv A outer s0 H vs Q E hr hh => ?_)
  obtain ⟨_, p, kk, v1, B, nn, rfl, ok, h1, O, hn, q⟩ := hh
  refine ⟨_, pss_cons (ps_par (i := 3) (j := 4) rfl sc_law_led.nd rfl rfl (by decide) rfl rfl (pa_cons (pe_tup (pa_cons pe_int (pa_cons pe_int (pa_cons (pe_tup pa_nil) (pa_cons (pe_tup pa_nil) pa_nil))))) (pa_cons (pe_lst pa_nil) pa_nil)) (by rfl))
    (pss_cons (ps_for PassesOwn.never rfl (pi_range1 (by rfl) Bl.range (pa_cons (pv 2) pa_nil)) (pg_name (i := 5) sc_law_led.nd rfl (.inl rfl))
      (pss_cons (ps_set (i := 6) sc_law_led.nd rfl (.inl rfl) (pe_cal C2 hr (by decide) (by rfl) pass0 (pa_cons (pv 1) (pa_cons (pv 3) pa_nil))))
      (pss_cons (ps_setLc (i := 7) (own := [("deed", 8)]) (g := gName 8) (tt := tTest (tOp (rIn K true) (tOp (rIx K) (tVar 8) (tC (.int 0))) (tTup (tCons (tC (.str "lose")) (tCons (tC (.str "crash")) tNil))))) (te := tVar 8) (by rfl) sc_law_led.nd rfl rfl (sw_true rfl rfl rfl (by decide +kernel)) (pi_list (pv 6)) (blkOk_by (N := ["purse", "raw", "many", "stand", "found", "lap", "some", "likely", "deed"]) (sc := defScope s_law_led) (by decide +kernel))
        (fun _ _ _ _ _ => pg_name (i := 8) sc_law_led.nd rfl (Or.inl rfl)) (fun _ _ _ _ _ => pts_one (pt_cmpR (r := rIn K true) op_notIn_seq (pe_ix (r := rIx K) ix_seq (pv 8) pe_int (fun _ _ => rfl)) (pe_tup (pa_cons pe_str (pa_cons pe_str pa_nil))) (by rfl))) (fun _ _ _ _ _ => pv 8))
      (pss_cons (ps_set (i := 8) sc_law_led.nd rfl (.inl rfl) (pe_ifExp (pt_cmpR op_gt (pe_cal CD hr (by decide) (by rfl) pass0 (pa_cons (pv 0) (pa_cons pe_int pa_nil))) pe_int (nomark _))
          (pe_ix (r := rIx K) ix_seq (pv 7) (pe_cal CD hr (by decide) (by rfl) pass0 (pa_cons (pv 0) (pa_cons (pe_callB call_len_seq (by rfl) Bl.len PySem.boot_len (pa_cons (pv 7) pa_nil)) pa_nil))) (fun _ _ => rfl))
          (pe_ix (r := rIx K) ix_seq (pv 6) (pe_cal CD hr (by decide) (by rfl) pass0 (pa_cons (pv 0) (pa_cons (pe_callB call_len_seq (by rfl) Bl.len PySem.boot_len (pa_cons (pv 6) pa_nil)) pa_nil))) (fun _ _ => rfl))))
      (pss_cons (ps_set (i := 3) sc_law_led.nd rfl (.inl rfl) (pe_ix (r := rIx K) ix_seq (pe_cal C1 hr (by decide) (by rfl) pass0 (pa_cons (pv 1) (pa_cons (pv 3) (pa_cons (pv 8) pa_nil)))) pe_int (fun _ _ => rfl)))
      (pss_one (ps_expr (pe_bm PySem.F.plainAttrs_list PySem.F.slot_list_append PySem.F.type_list_append mt_append (pv 4) (pa_cons (pv 8) pa_nil)))))))))
    (pss_one (ps_ret (pv 4)))), ?_⟩
  refine q_parAcc (K := K) (n := kk + 200) (m := kk + 200) (P1 := dP K (RP T p) (· = Sd.init.d)) ok ev_d0 fun v3 Da H1 H2 x1 k2 A2 ⟨d2, hd2, e2⟩ => ?_
  subst e2
  refine q_rng (R := RP T p) (pi := (· = (nn : Int))) (n := kk + 200) (m := kk + 200) k2 (ev_ivar rfl) (fun i e => by have e : i = (nn : Int) := e; omega) fun i H3 ei x3 k3 => ⟨fun j σ' H' => ∃ es v3 y5 y6 y7 y8, es.length = j ∧ B.Run Sd.init es ∧ σ' = [some (.ref p), some v1, some (.int (nn : Int)), some v3, some (.ref Da), y5, y6, y7, y8] ∧ AccAt K (RP T p) H1 Da (es.map Evt.d) H' ∧ WE.Ok (RP T p) (kk + 200 - 2 * j) H' ∧ Dq K (RP T p).M H' v3 (B.walk Sd.init es).d,
    ⟨[], v3, none, none, none, none, rfl, trivial, rfl, A2.go x3, k3, hd2.mono x3⟩, fun j σ' H' hj ⟨es, u3, y5, y6, y7, y8, el, hR, eσ, A, k', hd'⟩ => ?_, fun σ' H' ⟨es, u3, y5, y6, y7, y8, el, hR, eσ, A, k', hd'⟩ => ?_⟩
  · have ei : i = (nn : Int) := ei
    subst eσ ei
    have hj : j < nn := by omega
    have W := O.walk O.init hR
    have sm : (B.walk Sd.init es).Sm := sm_walk (by omega)
    have h1' := (h1.mono x1).mono A.xt
    refine q_asg (n := kk + 200 - 2 * j) (m := kk + 200 - 2 * j) k' (ev_deE (ev_dvar rfl h1') (ev_dvar rfl hd') O W sm) fun v6 H4 x4 k4 r4 => ?_
    have hd6 : Dq K (RP T p).M H4 v6 (.list ((B.deeds (B.walk Sd.init es)).map Evt.d)) := by
      obtain ⟨a, xs, ds, e, n1, h, d, e2⟩ := r4
      subst e
      rw [← show ds = _ from e2]
      exact .lst (.inl (.inl h)) n1 d
    have hl6 : (B.deeds (B.walk Sd.init es)).length ≤ 5000 := by
      have := B.deeds_len (B.walk Sd.init es)
      have := sm.f
      have := sm.g
      have := O.sz.1.2
      omega
    refine q_asg (n := kk + 200 - 2 * j) (m := kk + 200 - 2 * j) (P := lP K (RP T p) (· = ((B.deeds (B.walk Sd.init es)).filter fun e => calmD e.d).map Evt.d)) k4 ((ev_lcL2 (l := (B.deeds (B.walk Sd.init es)).map Evt.d) (f := id) (c := calmD) (ev_dvar rfl hd6) (by rw [List.length_map]; omega) (fun d hd _ => ?_) (fun d v H5 hd x5 hv => ?_)).imp fun v H' _ ⟨a, xs, ds, e, n1, h, d, e2⟩ => ⟨a, xs, ds, e, n1, h, d, by rw [show ds = _ from e2, filter_evt, List.map_id]⟩) fun v7 H5 x5 k5 r5 => ?_
    · obtain ⟨e, _, rfl⟩ := List.mem_map.mp hd
      exact imm_evt
    · obtain ⟨e, _, rfl⟩ := List.mem_map.mp hd
      exact ⟨_, fun Q2 h => h, rfl, evt_calm rfl hv, fun _ => ev_dvar rfl hv⟩
    have hd7 : Dq K (RP T p).M H5 v7 (.list (((B.deeds (B.walk Sd.init es)).filter fun e => calmD e.d).map Evt.d)) := by
      obtain ⟨a, xs, ds, e, n1, h, d, e2⟩ := r5
      subst e
      rw [← show ds = _ from e2]
      exact .lst (.inl (.inl h)) n1 d
    have pick : ∀ {l : List Evt} {s : Nat} {v : V} {H' : Hp} {m : Nat}, l ≠ [] → l.length ≤ 5000 → (∀ e ∈ l, e ∈ B.deeds (B.walk Sd.init es)) → [some (.ref p), some v1, some (.int (nn : Int)), some u3, some (.ref Da), some (.int (j : Int)), some v6, some v7, y8][s]? = some (some v) → Dq K (RP T p).M H' v (.list (l.map Evt.d)) → Ev (RP T p) (m + 1) m (tOp (rIx K) (tVar s) (tCall (SpDr T) [] E0 (tCons (tVar 0) (tCons (tCB (fun vs H Q => ∃ (a : Addr) (xs : List V), vs = [V.ref a] ∧ (SqL K H a xs ∨ SqT K H a xs) ∧ Q (.int (xs.length : Int)) H) (tCons (tVar s) tNil)) tNil)))) [some (.ref p), some v1, some (.int (nn : Int)), some u3, some (.ref Da), some (.int (j : Int)), some v6, some v7, y8] H' (dP K (RP T p) fun d => ∃ e ∈ B.deeds (B.walk Sd.init es), d = e.d) := by
      intro l s v H' m hne hl hm hs hd
      have hpos := List.length_pos_iff.mpr hne
      refine (ev_ix (p := (· = .list (l.map Evt.d))) (pi := fun i => ∃ z, z = (l.length : Int) ∧ 0 ≤ i ∧ i < z) (ev_dvar hs hd) ((ev_draw (pi := (· = (l.length : Int))) rfl ((ev_lenL (ev_dvar hs hd)).imp fun v H' _ ⟨z, e, e2⟩ => ⟨z, e, by rw [show z = _ from e2, List.length_map]⟩) fun i e => by have e : i = (l.length : Int) := e; omega).imp fun v H' _ ⟨d, e, z, e2, d0, d1⟩ => ⟨d, e, z, e2, d0, d1⟩) fun d i e1 ⟨z, e2, i0, i1⟩ => ?_).imp fun v H' _ ⟨e, he, d', ds', j', e1, e2, e3, e4⟩ => ⟨e, he, ?_⟩
      · have hlt : i.toNat < l.length := by omega
        exact ⟨l.map Evt.d, i.toNat, (l[i.toNat]).d, .inr e1, by omega, by rw [List.getElem?_map, List.getElem?_eq_getElem hlt]; rfl⟩
      · have e1 : d' = .list (l.map Evt.d) := e1
        subst e1
        rcases e3 with e3 | e3
        · cases e3
        · cases e3
          obtain ⟨ev, g1, g2⟩ := evs_at e4
          exact ⟨ev, hm ev (List.mem_of_getElem? g1), g2⟩
    have sm1 : Evt.send ∈ B.deeds (B.walk Sd.init es) := send_mem
    have sm2 : Evt.send ∈ (B.deeds (B.walk Sd.init es)).filter fun e => calmD e.d := List.mem_filter.mpr ⟨sm1, by decide +kernel⟩
    have ec : kk + 200 - 2 * j = (kk + 200 - 2 * (j + 1)) + 1 + 1 := by omega
    rw [ec] at k5
    refine q_asg (n := (kk + 200 - 2 * (j + 1)) + 1 + 1) (m := kk + 200 - 2 * (j + 1)) (P := dP K (RP T p) fun d => ∃ e ∈ B.deeds (B.walk Sd.init es), d = e.d) k5 (ev_if (p := fun _ => True) (k := (kk + 200 - 2 * (j + 1)) + 1) (evt_test (ev_I0 (ev_draw (pi := (· = 4)) rfl ev_int fun i e => by have e : i = 4 := e; omega) ev_int fun i j H _ _ => ⟨_, rfl, trivial⟩)) (fun _ => pick (List.ne_nil_of_mem sm2) (Nat.le_trans (List.length_filter_le _ _) hl6) (fun e he => (List.mem_filter.mp he).1) rfl hd7) fun _ => pick (List.ne_nil_of_mem sm1) hl6 (fun e he => he) rfl (hd6.mono x5)) fun v8 H6 x6 k6 ⟨d8, hd8, ev, hev, e8⟩ => ?_
    subst e8
    have C := B.can_deeds hev
    have hd3 := ((hd'.mono x4).mono x5).mono x6
    have h1b := ((h1'.mono x4).mono x5).mono x6
    refine q_asg (n := kk + 200 - 2 * (j + 1)) (m := kk + 200 - 2 * (j + 1)) k6 (ev_ixN (ev_stE (ev_dvar rfl h1b) (ev_dvar rfl hd3) (ev_dvar rfl hd8) O W C sm) 0 rfl rfl) fun v9 H7 x7 k7 ⟨d9, hd9, e9⟩ => ?_
    subst e9
    have A7 := ((((A.go x4).go x5).go x6).go x7)
    refine s_app (K := K) (p := (· = ev.d)) (m := kk + 200 - 2 * (j + 1)) k7 A7 rfl (ev_dvar rfl (hd8.mono x7)) (fun d e => by rw [show d = _ from e]; exact imm_evt) (by rw [List.length_map]; omega) fun d H8 ed k8 A8 keep => ⟨es ++ [ev], v9, _, _, _, _, by rw [List.length_append]; exact congrArg (· + 1) el, B.run_snoc hR C, rfl, ?_, k8, ?_⟩
    · rw [show d = _ from ed] at A8
      rw [List.map_append]
      exact A8
    · rw [B.walk_snoc]
      exact keep hd9 (imm_stand (O.step W C))
  · have ei : i = (nn : Int) := ei
    subst eσ ei
    refine s_ret (P := aP K (RP T p) H (es.map Evt.d)) (m := kk) (k'.mono (by omega)) (ev_var rfl ⟨_, rfl, A.pull x1⟩) fun v H4 x4 k4 ⟨D4, e, A4⟩ => ?_
    subst e
    exact q es D4 H4 (by omega) hR k4 A4
end
end LW

set_option Elab.async false
set_option linter.all false
set_option maxRecDepth 100000
set_option maxHeartbeats 8000000
namespace LW
open PySem PySem.Spec PyProof.Rows L2 LamX NdefX WE WLam WQ
theorem Room.units65 {k : Nat} {A : Around} (r : Room k A) : A.units + 65 < cLine := by have := r.un; omega
/-! ### in over a tuple of data; constants of the module -/
def rInT (K : PySem.W.Frag) : R2 := fun x y H Q => ∃ d ds, Dp K H x d ∧ Dp K H y (.tuple ds) ∧ SeqAt.shaped d = true ∧ SeqAt.shaped (.tuple ds) = true ∧ Q (.bl (ds.any fun z => PyData.eqv z d)) H
theorem op_inT {X : Cx} (hu : X.A.units + 65 < cLine) : OpR X (compareOp .In) (rInT X.K) := by
  intro pins s σ H x y v u Q I rx ry h
  obtain ⟨d, ds, hd, he, sd, se, q⟩ := h
  obtain ⟨as, r1⟩ := Dp.reads I d x v hd rx
  obtain ⟨bs, r2⟩ := Dp.reads I (.tuple ds) y u he ry
  exact SeqAt.in_tuple_reads r2 r1 (SeqAt.canLay_of_shaped se) (SeqAt.canLay_of_shaped sd) (room_in_shaped sd hu) ⟨.bl _, H, I, rfl, q⟩
/-- a constant of the module: data that nothing changes -/
structure Cst (K : PySem.W.Frag) (mg : Str → Option Value) (x : Str) (d : PyData) : Prop where
  ex : ∃ a, mg x = some (.ref a) ∧ ∀ (M : Addr → Prop) (H : Hp), Dq K M H (.ref a) d
abbrev chanD : PyData := .tuple [.str "forward", .str "backward"]
abbrev plainD : PyData := .tuple [Evt.send.d, Evt.answer.d, Evt.passF.d, Evt.passB.d, Evt.crashS.d, Evt.crashR.d]
/-- the numbers that an event tells fit the tables -/
def Tb.Fit (B : Tb) : Evt → Prop
  | .hand v => (v : Int) < B.a
  | _ => True
theorem Tb.fit_of {B : Tb} {x : Sd} {e : Evt} (h : B.Can x e) : B.Fit e := by cases e <;> first | exact h.2 | trivial
section
variable {P : Program} {w : World} {K : PySem.W.Frag} {mg : Str → Option Value} {base : Heap} {T : List (Addr × Str)} {CP CS CR : Addr}
section
variable {R : Rs} {σ : L2.St} {H : Hp} {n m k : Nat} {ta tb : TE} {d : PyData} {ds : List PyData}
theorem ev_inT {a : Addr} (ha : Ev R n m ta σ H (dP K R (· = d))) (hc : ∀ M H, Dq K M H (.ref a) (.tuple ds)) (hd : Lay 6 d) (hs : Lay 6 (.tuple ds)) : Ev R n m (tOp (rInT K) ta (tC (.ref a))) σ H (bP R (· = ds.any fun z => PyData.eqv z d)) :=
  ev_op (P2 := vP R (.ref a)) ha (ev_c fun _ => rfl) fun x y H1 _ k ⟨d', hd', e⟩ ey Q q => by
    subst e
    cases (show y = _ from ey)
    exact ⟨_, ds, hd'.dp, (hc R.M H1).dp, hd.shaped (by decide), hs.shaped (by decide), q _ H1 (.refl _) k ⟨_, rfl, rfl⟩⟩
end
/-! ### is_event -/
theorem sc_is_event : FnScope ["pair", "thing"] ["pair", "thing"] (defScope s_is_event) := ⟨rfl, rfl, rfl, by decide +kernel, rfl, by decide +kernel, by decide +kernel⟩
def SpEv (T : List (Addr × Str)) (K : PySem.W.Frag) (CP CS CR : Addr) : Sp := fun vs H Q _ => vs.length = 2 ∧ ∃ (R : Rs) (m : Nat) (p : Addr) (v : V) (B : Tb) (e : Evt), R.T = T ∧ vs = [.ref p, v] ∧ WE.Ok R m H ∧ PairAt K R.M CP CS CR H p B.fS B.fR ∧ Dq K R.M H v e.d ∧ B.Fit e ∧ ∀ H', Xt R H H' → WE.Ok R m H' → Q (.bl true) H'
theorem ok_is_event (D : Def1 K mg "is_event" s_is_event) (Bl : Bl mg) (N : PairC P w K mg base CP) (NS : Prp8 P w K mg base CS "takes" "_takes") (C1 : Cal P w K mg base CX0 1 "is_integer_from" ["thing", "low"] (SpIIF T K)) (C2 : Cal P w K mg base CX0 2 "is_below" ["thing", "limit"] (SpIB T K)) (c1 : Cst K mg "CHANNELS" chanD) (c2 : Cst K mg "PLAIN_EVENTS" plainD) : Cal P w K mg base CX0 3 "is_event" ["pair", "thing"] (SpEv T K CP CS CR) := by
  refine cal_of D sc_is_event (fun _ _ _ _ _ _ us hl => match us, hl with | [_, _], _ => rfl) (fun vs H Q E h => h.1) (fun f cdv A outer s0 H vs Q E hr hh => ?_)
  obtain ⟨_, R, m, p, v1, B, e, rfl, rfl, ok, hP, hd, ft, q⟩ := hh
  obtain ⟨a1, g1, h1⟩ := c1.ex
  obtain ⟨a2, g2, h2⟩ := c2.ex
  refine ⟨_, pss_cons (ps_if (pt_not (pt_val (pe_callB call_isi (by rfl) Bl.isinstance (by decide +kernel) (pa_cons (pv 1) (pa_cons (pe_bltn (v := .ty "tuple") (by rfl) Bl.tuple (by decide +kernel) rfl) pa_nil))))) (pss_one ps_never) pss_nil)
    (pss_cons (ps_if (PW.pt (pw_and (pt_cmpR op_eq (pe_callB call_len_seq (by rfl) Bl.len PySem.boot_len (pa_cons (pv 1) pa_nil)) pe_int (nomark _)) (pw_and1 (pt_cmpR op_eq (pe_ix (r := rIx K) ix_seq (pv 1) pe_int (fun _ _ => rfl)) pe_str (nomark _)))))
      (pss_one (ps_ret (pe_cal C2 hr (by decide) (by rfl) pass0 (pa_cons (pe_ix (r := rIx K) ix_seq (pv 1) pe_int (fun _ _ => rfl)) (pa_cons (pe_prp (pe_prp (pv 0) N.ci.cl N.p1 hr (by decide)) NS.cl.cl NS.c3.p1 hr (by decide)) pa_nil))))) pss_nil)
    (pss_cons (ps_if (PW.pt (pw_and (pt_cmpR op_eq (pe_callB call_len_seq (by rfl) Bl.len PySem.boot_len (pa_cons (pv 1) pa_nil)) pe_int (nomark _)) (pw_and1 (pt_cmpR op_eq (pe_ix (r := rIx K) ix_seq (pv 1) pe_int (fun _ _ => rfl)) pe_str (nomark _)))))
      (pss_one (ps_ret (pe_and (pe_cmpR (r := rInT K) (op_inT (Room.units65 hr)) (pe_ix (r := rIx K) ix_seq (pv 1) pe_int (fun _ _ => rfl)) (pe_glob (v := .ref a1) (by rfl) g1 rfl) (by rfl)) (pe_one (pe_cal C1 hr (by decide) (by rfl) pass0 (pa_cons (pe_ix (r := rIx K) ix_seq (pv 1) pe_int (fun _ _ => rfl)) (pa_cons pe_int pa_nil))))))) pss_nil)
    (pss_one (ps_ret (pe_cmpR (r := rInT K) (op_inT (Room.units65 hr)) (pv 1) (pe_glob (v := .ref a2) (by rfl) g2 rfl) (by rfl)))))), ?_⟩
  have hm : ∀ {H' : Hp}, Xt R H H' → Dq K R.M H' v1 e.d := fun x' => hd.mono x'
  have ln : ∀ {ds : List PyData} {z : Int} {H' : Hp}, e.d = .tuple ds → Xt R H H' → EvT R m m (tTest (tOp rEq (tCB (fun vs H Q => ∃ (a : Addr) (xs : List V), vs = [V.ref a] ∧ (SqL K H a xs ∨ SqT K H a xs) ∧ Q (.int (xs.length : Int)) H) (tCons (tVar 1) tNil)) (tC (.int z)))) [some (.ref p), some v1] H' (· = decide ((ds.length : Int) = z)) := fun {ds z H'} he x' => by
    have h' := hm x'
    rw [he] at h'
    exact evt_test ((ev_eqI (ev_lenK (ev_dvar rfl h')) ev_int).imp fun v H' _ ⟨b, e, i, j, e1, e2, e3⟩ => ⟨b, e, by rw [e3, show i = _ from e1, show j = _ from e2]⟩)
  have wd : ∀ {ds : List PyData} {w z : Str} {H' : Hp}, e.d = .tuple (.str w :: ds) → Xt R H H' → EvT R m m (tTest (tOp rEq (tOp (rIx K) (tVar 1) (tC (.int 0))) (tC (.str z)))) [some (.ref p), some v1] H' (· = decide (w = z)) := fun {ds w z H'} he x' => by
    have h' := hm x'
    rw [he] at h'
    exact evt_test (ev_strD (ev_at rfl h' 0 rfl rfl))
  have ly : Lay 6 plainD := (lay_tup (k := 1) fun d hd => by
    simp only [List.mem_cons, List.mem_nil_iff, or_false] at hd
    rcases hd with rfl | rfl | rfl | rfl | rfl | rfl <;> exact lay_evt).mono (by decide)
  have lc : Lay 6 chanD := (lay_tup (k := 0) fun d hd => by
    simp only [List.mem_cons, List.mem_nil_iff, or_false] at hd
    rcases hd with rfl | rfl <;> exact lay_str (by decide +kernel)).mono (by decide)
  refine q_ifF (n := m) (m := m) (b := false) ok (evt_notT (evt_B ((ev_isi (tn := "tuple") (ev_dvar rfl hd) fun d e => kit_tuple d).imp fun v H' _ ⟨b, e1, d, e2, e3⟩ => ⟨b, e1, by rw [e3, show d = _ from e2, isT_tuple]; cases e <;> rfl⟩))) rfl fun H1 x1 k1 => ?_
  have plain : ∀ {H' : Hp}, Xt R H H' → WE.Ok R m H' → (e.d ∈ [Evt.send.d, Evt.answer.d, Evt.passF.d, Evt.passB.d, Evt.crashS.d, Evt.crashR.d]) → tRet (tOp (rInT K) (tVar 1) (tC (.ref a2))) { nx := fun _ H' => Q .non H', rt := Q } [some (.ref p), some v1] H' := fun {H'} x' k' hmem =>
    s_ret k' (ev_inT (ev_dvar rfl (hm x')) h2 ((lay_evt).mono (by decide)) ly) fun v H3 x3 k3 ⟨b, e1, e2⟩ => by
      subst e1
      have : b = true := e2.trans (List.any_eq_true.mpr ⟨_, hmem, eqv_refl imm_evt⟩)
      rw [this]
      exact q H3 (x'.trans x3) k3
  have iif : ∀ {i : Nat} {σ : L2.St} {H' : Hp} {te : TE}, Ev R m m te σ H' (dP K R (· = .int (i : Int))) → Ev R m m (tCall (SpIIF R.T K) [] E0 (tCons te (tCons (tC (.int 0)) tNil))) σ H' (bP R (· = true)) := fun {i σ H' te} h =>
    (ev_callD (ps := [(· = .int (i : Int)), (· = .int 0)]) (eva_d h (eva_d ev_di eva_nil)) rfl fun ds e => by
      obtain ⟨_, _, rfl, rfl, _, _, rfl, rfl, rfl⟩ := e
      exact ⟨_, _, rfl⟩).imp fun v H' _ ⟨d, hd, ds, e, d', lo, e1, e2⟩ => by
        obtain ⟨_, _, rfl, rfl, _, _, rfl, rfl, rfl⟩ := e
        cases e1
        subst e2
        exact ⟨_, dq_bl hd, by simp [intFrom]⟩
  have loseP : ∀ {ch : Str} {i : Nat} {H' : Hp}, e.d = .tuple [.str "lose", .str ch, .int (i : Int)] → PyData.str ch ∈ [PyData.str "forward", .str "backward"] → PyData.strOk ch = true → Xt R H H' → WE.Ok R m H' → tRet (tAndV (tOp (rInT K) (tOp (rIx K) (tVar 1) (tC (.int 1))) (tC (.ref a1))) (tCall (SpIIF R.T K) [] E0 (tCons (tOp (rIx K) (tVar 1) (tC (.int 2))) (tCons (tC (.int 0)) tNil)))) { nx := fun _ H' => Q .non H', rt := Q } [some (.ref p), some v1] H' := fun {ch i H'} he hmem hs x' k' => by
    have h' := hm x'
    rw [he] at h'
    refine s_ret k' (ev_andE (b1 := true) (b2 := true) ((ev_inT (ev_at rfl h' 1 rfl rfl) h1 (lay_str hs) lc).imp fun v H' _ ⟨b, e1, e2⟩ => ⟨b, e1, e2.trans (List.any_eq_true.mpr ⟨_, hmem, eqv_refl rfl⟩)⟩) fun _ => iif (ev_at rfl h' 2 rfl rfl)) fun v H3 x3 k3 ⟨b, e1, e2⟩ => ?_
    subst e1 e2
    exact q H3 (x'.trans x3) k3
  cases e with
  | hand v =>
    have ft : (v : Int) < B.a := ft
    refine q_ifT k1 (evt_andT ((ln rfl x1).imp fun b e => e.trans (by rfl)) (wd rfl x1)) (by decide +kernel) fun H2 x2 k2 => ?_
    refine s_ret (P := bP R (· = true)) (m := m) k2 ((ev_callD (ps := [(· = .int (v : Int)), (· = .int B.a)]) (eva_d (ev_at rfl (hm (x1.trans x2)) 1 rfl rfl) (eva_d (ev_prp (ev_prpS (ev_var rfl ⟨p, rfl, (hP.mono x1).mono x2⟩)) (by simp [Tb.fS, sndF])) eva_nil)) rfl fun ds e => ?_).imp fun v' H' _ ⟨d, hd, ds, e, d', hi, e1, e2⟩ => ?_) fun v' H3 x3 k3 ⟨b, e1, e2⟩ => ?_
    · obtain ⟨_, _, rfl, rfl, _, _, rfl, rfl, rfl⟩ := e
      exact ⟨_, _, rfl⟩
    · obtain ⟨_, _, rfl, rfl, _, _, rfl, rfl, rfl⟩ := e
      cases e1
      subst e2
      refine ⟨_, dq_bl hd, ?_⟩
      show (decide ((0 : Int) ≤ v) && decide ((v : Int) < B.a)) = true
      rw [decide_eq_true (Int.natCast_nonneg _), decide_eq_true ft]
      rfl
    · subst e1 e2
      exact q H3 (x1.trans (x2.trans x3)) k3
  | loseF i =>
    refine q_ifF k1 (evt_andF ((ln rfl x1).imp fun b e => e.trans (by rfl))) rfl fun H2 x2 k2 => ?_
    refine q_ifT k2 (evt_andT ((ln rfl (x1.trans x2)).imp fun b e => e.trans (by rfl)) (wd rfl (x1.trans x2))) (by decide +kernel) fun H3 x3 k3 => ?_
    exact loseP (i := i) rfl (by simp) (by decide +kernel) (x1.trans (x2.trans x3)) k3
  | loseB i =>
    refine q_ifF k1 (evt_andF ((ln rfl x1).imp fun b e => e.trans (by rfl))) rfl fun H2 x2 k2 => ?_
    refine q_ifT k2 (evt_andT ((ln rfl (x1.trans x2)).imp fun b e => e.trans (by rfl)) (wd rfl (x1.trans x2))) (by decide +kernel) fun H3 x3 k3 => ?_
    exact loseP (i := i) rfl (by simp) (by decide +kernel) (x1.trans (x2.trans x3)) k3
  | send =>
    refine q_ifF k1 (evt_andF ((ln rfl x1).imp fun b e => e.trans (by rfl))) rfl fun H2 x2 k2 => ?_
    refine q_ifF k2 (evt_andF ((ln rfl (x1.trans x2)).imp fun b e => e.trans (by rfl))) rfl fun H3 x3 k3 => ?_
    exact plain (x1.trans (x2.trans x3)) k3 (by simp)
  | answer =>
    refine q_ifF k1 (evt_andF ((ln rfl x1).imp fun b e => e.trans (by rfl))) rfl fun H2 x2 k2 => ?_
    refine q_ifF k2 (evt_andF ((ln rfl (x1.trans x2)).imp fun b e => e.trans (by rfl))) rfl fun H3 x3 k3 => ?_
    exact plain (x1.trans (x2.trans x3)) k3 (by simp)
  | passF =>
    refine q_ifF k1 (evt_andT ((ln rfl x1).imp fun b e => e.trans (by rfl)) (wd rfl x1)) (by decide +kernel) fun H2 x2 k2 => ?_
    refine q_ifF k2 (evt_andF ((ln rfl (x1.trans x2)).imp fun b e => e.trans (by rfl))) rfl fun H3 x3 k3 => ?_
    exact plain (x1.trans (x2.trans x3)) k3 (by simp)
  | passB =>
    refine q_ifF k1 (evt_andT ((ln rfl x1).imp fun b e => e.trans (by rfl)) (wd rfl x1)) (by decide +kernel) fun H2 x2 k2 => ?_
    refine q_ifF k2 (evt_andF ((ln rfl (x1.trans x2)).imp fun b e => e.trans (by rfl))) rfl fun H3 x3 k3 => ?_
    exact plain (x1.trans (x2.trans x3)) k3 (by simp)
  | crashS =>
    refine q_ifF k1 (evt_andT ((ln rfl x1).imp fun b e => e.trans (by rfl)) (wd rfl x1)) (by decide +kernel) fun H2 x2 k2 => ?_
    refine q_ifF k2 (evt_andF ((ln rfl (x1.trans x2)).imp fun b e => e.trans (by rfl))) rfl fun H3 x3 k3 => ?_
    exact plain (x1.trans (x2.trans x3)) k3 (by simp)
  | crashR =>
    refine q_ifF k1 (evt_andT ((ln rfl x1).imp fun b e => e.trans (by rfl)) (wd rfl x1)) (by decide +kernel) fun H2 x2 k2 => ?_
    refine q_ifF k2 (evt_andF ((ln rfl (x1.trans x2)).imp fun b e => e.trans (by rfl))) rfl fun H3 x3 k3 => ?_
    exact plain (x1.trans (x2.trans x3)) k3 (by simp)
end
end LW

set_option Elab.async false
set_option linter.all false
set_option maxRecDepth 100000
set_option maxHeartbeats 8000000
namespace LW
open PySem PySem.Spec PyProof.Rows L2 LamX NdefX WE WLam WQ
/-! ### a talk in the heap -/
/-- some more addresses that may change -/
def plus (R : Rs) (S : Addr → Prop) : Rs := ⟨R.T, fun b => R.M b ∨ S b, R.G, R.mono, fun m H H' h g => R.loc m H H' (fun b hb => h b (.inl hb)) g⟩
abbrev tkS (x ch l1 l2 : Addr) : Addr → Prop := fun b => b = x ∨ b = ch ∨ b = l1 ∨ b = l2
def chK (l1 l2 : Addr) : List (Key × V) := [(.inr "forward", .ref l1), (.inr "backward", .ref l2)]
abbrev fiveF : List Str := ["sender_tables", "receiver_tables", "sender_state", "receiver_state", "channels"]
section
variable {R : Rs} {S : Addr → Prop} {H H' H0 : Hp} {p : Addr} {o o0 : HO} {m n : Nat}
theorem mut_ne {u : HO} (h : WE.Mut u) : (∀ xs, u ≠ .tup xs) ∧ (∀ o v, u ≠ .frz o v) ∧ (∀ ps, u ≠ .tbl ps) ∧ ∀ c q, u ≠ CodeO c q := by
  rcases h with ⟨xs, rfl⟩ | ⟨C, dx, fs, rfl⟩ | ⟨kvs, rfl⟩ <;> exact ⟨(fun _ z => nomatch z), (fun _ _ z => nomatch z), (fun _ z => nomatch z), (fun _ _ z => by unfold CodeO at z; cases z)⟩
theorem tx_mut (h : H p = some o0) (hm : WE.Mut o0) : Tx H (upd H p o) := by
  obtain ⟨h1, h2, _, _⟩ := mut_ne hm
  refine ⟨fun b ys e => ?_, fun b ob u e => ?_⟩
  · rw [upd_ne (ne_of e h (fun z => h1 _ z.symm))]; exact e
  · rw [upd_ne (ne_of e h (fun z => h2 _ _ z.symm))]; exact e
theorem ok_mut (kk : WE.Ok R m H) (h : H p = some o0) (hm : WE.Mut o0) (hn : ¬ R.M p) : WE.Ok R m (upd H p o) := by
  obtain ⟨_, _, h3, h4⟩ := mut_ne hm
  have hb : ∀ b, R.M b → upd H p o b = H b := fun b hm => upd_ne fun z => hn (z ▸ hm)
  refine ⟨fun q hq => ?_, fun b hm => by rw [hb b hm]; exact kk.ml b hm, R.loc _ _ _ hb kk.g⟩
  obtain ⟨ps, t1, t2, t3⟩ := kk.tab q hq
  refine ⟨ps, by rw [upd_ne (ne_of t1 h (fun z => h3 _ z.symm))]; exact t1, t2, fun pos cv hcv => ?_⟩
  obtain ⟨c', z1, z2⟩ := t3 pos cv hcv
  exact ⟨c', z1, by rw [upd_ne (ne_of z2 h (fun z => h4 _ _ z.symm))]; exact z2⟩
theorem xt_mut (h : H p = some o0) (hm : WE.Mut o0) (hp : R.M p) : Xt R H (upd H p o) := by
  obtain ⟨h1, h2, h3, _⟩ := mut_ne hm
  refine ⟨fun b u e nb _ => ?_, fun b xs e => ?_, fun b u v e => ?_, fun b e => ?_⟩
  · rw [upd_ne (fun z : b = p => nb (by rw [z]; exact hp))]; exact e
  · rw [upd_ne (ne_of e h (fun z => h1 _ z.symm))]; exact e
  · rw [upd_ne (ne_of e h (fun z => h2 _ _ z.symm))]; exact e
  · unfold upd at e
    split at e
    · cases e
    · exact e
theorem _root_.WE.Xt.plus (x : Xt R H H') : Xt (plus R S) H H' := ⟨fun b o e n t => x.keep b o e (fun z => n (.inl z)) t, x.tup, x.frz, x.mon⟩
theorem _root_.WE.Xt.ofPlus (x : Xt R H0 H) (hS : ∀ b, S b → H0 b = none) (x2 : Xt (LW.plus R S) H H') : Xt R H0 H' := by
  refine ⟨fun b o e nb ht => x2.keep b o (x.keep b o e nb ht) (fun z => ?_) ht, fun b xs e => x2.tup b xs (x.tup b xs e), fun b o u e => x2.frz b o u (x.frz b o u e), fun b e => x.mon b (x2.mon b e)⟩
  rcases z with z | z
  · exact nb z
  · rw [hS b z] at e
    cases e
end
/-- at x stands a talk of these tables, at this stand; ch its channels, l1 and l2 the lists -/
structure TalkAt (K : PySem.W.Frag) (M : Addr → Prop) (CT CS CR : Addr) (B : Tb) (y : Sd) (x ch l1 l2 : Addr) (H : Hp) : Prop where
  nx : ¬ M x
  nc : ¬ M ch
  n1 : ¬ M l1
  n2 : ¬ M l2
  ne : l1 ≠ l2
  if_ : immAll y.f = true
  ig : immAll y.g = true
  ex : ∃ (dx : Addr) (fs : List (Str × V)) (s r : Addr) (fv gv : List V), H x = some (.ins CT dx fs) ∧ fs.lookup ("sender_tables" : Str) = some (V.ref s) ∧ fs.lookup ("receiver_tables" : Str) = some (V.ref r) ∧ (¬ M s ∧ s ≠ x) ∧ (¬ M r ∧ r ≠ x) ∧ InsD K CS H s B.fS ∧ InsD K CR H r B.fR ∧
    fs.lookup ("sender_state" : Str) = some (V.int y.a) ∧ fs.lookup ("receiver_state" : Str) = some (V.int y.b) ∧ fs.lookup ("channels" : Str) = some (V.ref ch) ∧ H ch = some (.dK (chK l1 l2)) ∧ H l1 = some (.lst fv) ∧ H l2 = some (.lst gv) ∧ DqAll K M H fv y.f ∧ DqAll K M H gv y.g ∧
    fs.length ≤ 100 ∧ ∀ g, g ∉ fiveF → fs.lookup g = none
section
variable {K : PySem.W.Frag} {R : Rs} {CT CS CR : Addr} {B : Tb} {y : Sd} {x ch l1 l2 : Addr} {H H' : Hp} {m n : Nat}
theorem TalkAt.mono (h : TalkAt K R.M CT CS CR B y x ch l1 l2 H) (xt : Xt R H H') : TalkAt K R.M CT CS CR B y x ch l1 l2 H' := by
  obtain ⟨dx, fs, s, r, fv, gv, h1, h2, h3, h4, h5, h6, h7, h8, h9, h10, h11, h12, h13, h14, h15, h16, h17⟩ := h.ex
  exact ⟨h.nx, h.nc, h.n1, h.n2, h.ne, h.if_, h.ig, dx, fs, s, r, fv, gv, xt.keep x _ h1 h.nx (fun _ z => nomatch z), h2, h3, h4, h5, h6.mono2 h4.1 xt, h7.mono2 h5.1 xt, h8, h9, h10, xt.keep ch _ h11 h.nc (fun _ z => nomatch z), xt.keep l1 _ h12 h.n1 (fun _ z => nomatch z), xt.keep l2 _ h13 h.n2 (fun _ z => nomatch z), h14.mono xt, h15.mono xt, h16, h17⟩
/-- a step of the heap that changes the talk alone -/
structure Go (R : Rs) (m : Nat) (x ch l1 l2 : Addr) (H H' : Hp) : Prop where
  ok : WE.Ok R m H'
  xt : Xt (plus R (tkS x ch l1 l2)) H H'
theorem Go.of (k : WE.Ok R m H') (xt : Xt R H H') : Go R m x ch l1 l2 H H' := ⟨k, xt.plus⟩
theorem Go.trans {H1 : Hp} {k : Nat} (a : Go R k x ch l1 l2 H H1) (b : Go R m x ch l1 l2 H1 H') : Go R m x ch l1 l2 H H' := ⟨b.ok, a.xt.trans b.xt⟩
theorem ins_upd {C s p : Addr} {F : List (Str × PyData)} {o o0 : HO} (h : InsD K C H s F) (hp : H p = some o0) (hm : WE.Mut o0) (ne : s ≠ p) : InsD K C (upd H p o) s F := by
  obtain ⟨dx, fs, g1, g2⟩ := h
  exact ⟨dx, fs, by rw [upd_ne ne]; exact g1, g2.tx (tx_mut hp hm)⟩
/-- a field of the talk is set -/
theorem TalkAt.putA (h : TalkAt K R.M CT CS CR B y x ch l1 l2 H) (kk : WE.Ok R m H) {dx : Addr} {fs : List (Str × V)} (hx : H x = some (.ins CT dx fs)) (a : Nat) : TalkAt K R.M CT CS CR B { y with a := a } x ch l1 l2 (upd H x (.ins CT dx (putF "sender_state" (.int a) fs))) ∧ Go R m x ch l1 l2 H (upd H x (.ins CT dx (putF "sender_state" (.int a) fs))) := by
  obtain ⟨dx', fs', s, r, fv, gv, h1, h2, h3, h4, h5, h6, h7, h8, h9, h10, h11, h12, h13, h14, h15, h16, h17⟩ := h.ex
  rw [hx] at h1
  cases h1
  have mt : WE.Mut (.ins CT dx fs) := .inr (.inl ⟨_, _, _, rfl⟩)
  have t : Tx H (upd H x (.ins CT dx (putF "sender_state" (.int a) fs))) := tx_mut hx mt
  refine ⟨⟨h.nx, h.nc, h.n1, h.n2, h.ne, h.if_, h.ig, dx, _, s, r, fv, gv, upd_same, by rw [lookup_putF, if_neg (by decide +kernel)]; exact h2, by rw [lookup_putF, if_neg (by decide +kernel)]; exact h3, h4, h5, ins_upd h6 hx mt h4.2, ins_upd h7 hx mt h5.2, by rw [lookup_putF, if_pos rfl], by rw [lookup_putF, if_neg (by decide +kernel)]; exact h9, by rw [lookup_putF, if_neg (by decide +kernel)]; exact h10,
    by rw [upd_ne (ne_of h11 hx (fun z => nomatch z))]; exact h11, by rw [upd_ne (ne_of h12 hx (fun z => nomatch z))]; exact h12, by rw [upd_ne (ne_of h13 hx (fun z => nomatch z))]; exact h13, h14.imm t h.if_, h15.imm t h.ig, ?_, fun g hg => ?_⟩, ok_mut kk hx mt h.nx, xt_mut hx mt (.inr (.inl rfl))⟩
  · have e : (putF "sender_state" (V.int a) fs).length = fs.length := by
      have : ∀ {l : List (Str × V)}, l.lookup ("sender_state" : Str) = some (V.int y.a) → (putF "sender_state" (V.int a) l).length = l.length := by
        intro l
        induction l with
        | nil => intro z; cases z
        | cons q l ih =>
          intro z
          obtain ⟨g, v⟩ := q
          unfold putF
          split
          · rfl
          · rename_i hne
            rw [List.length_cons, List.length_cons, ih]
            rw [List.lookup_cons] at z
            have : (("sender_state" : Str) == g) = false := by
              cases q : (("sender_state" : Str) == g) with
              | false => rfl
              | true => exact absurd (beq_iff_eq.mp q).symm hne
            rw [this] at z
            exact z
      exact this h8
    rw [e]
    exact h16
  · rw [lookup_putF, if_neg (fun z => hg (by rw [z]; simp))]
    exact h17 g hg
theorem TalkAt.putB (h : TalkAt K R.M CT CS CR B y x ch l1 l2 H) (kk : WE.Ok R m H) {dx : Addr} {fs : List (Str × V)} (hx : H x = some (.ins CT dx fs)) (a : Nat) : TalkAt K R.M CT CS CR B { y with b := a } x ch l1 l2 (upd H x (.ins CT dx (putF "receiver_state" (.int a) fs))) ∧ Go R m x ch l1 l2 H (upd H x (.ins CT dx (putF "receiver_state" (.int a) fs))) := by
  obtain ⟨dx', fs', s, r, fv, gv, h1, h2, h3, h4, h5, h6, h7, h8, h9, h10, h11, h12, h13, h14, h15, h16, h17⟩ := h.ex
  rw [hx] at h1
  cases h1
  have mt : WE.Mut (.ins CT dx fs) := .inr (.inl ⟨_, _, _, rfl⟩)
  have t : Tx H (upd H x (.ins CT dx (putF "receiver_state" (.int a) fs))) := tx_mut hx mt
  refine ⟨⟨h.nx, h.nc, h.n1, h.n2, h.ne, h.if_, h.ig, dx, _, s, r, fv, gv, upd_same, by rw [lookup_putF, if_neg (by decide +kernel)]; exact h2, by rw [lookup_putF, if_neg (by decide +kernel)]; exact h3, h4, h5, ins_upd h6 hx mt h4.2, ins_upd h7 hx mt h5.2, by rw [lookup_putF, if_neg (by decide +kernel)]; exact h8, by rw [lookup_putF, if_pos rfl], by rw [lookup_putF, if_neg (by decide +kernel)]; exact h10,
    by rw [upd_ne (ne_of h11 hx (fun z => nomatch z))]; exact h11, by rw [upd_ne (ne_of h12 hx (fun z => nomatch z))]; exact h12, by rw [upd_ne (ne_of h13 hx (fun z => nomatch z))]; exact h13, h14.imm t h.if_, h15.imm t h.ig, ?_, fun g hg => ?_⟩, ok_mut kk hx mt h.nx, xt_mut hx mt (.inr (.inl rfl))⟩
  · have e : (putF "receiver_state" (V.int a) fs).length = fs.length := by
      have : ∀ {l : List (Str × V)}, l.lookup ("receiver_state" : Str) = some (V.int y.b) → (putF "receiver_state" (V.int a) l).length = l.length := by
        intro l
        induction l with
        | nil => intro z; cases z
        | cons q l ih =>
          intro z
          obtain ⟨g, v⟩ := q
          unfold putF
          split
          · rfl
          · rename_i hne
            rw [List.length_cons, List.length_cons, ih]
            rw [List.lookup_cons] at z
            have : (("receiver_state" : Str) == g) = false := by
              cases q : (("receiver_state" : Str) == g) with
              | false => rfl
              | true => exact absurd (beq_iff_eq.mp q).symm hne
            rw [this] at z
            exact z
      exact this h9
    rw [e]
    exact h16
  · rw [lookup_putF, if_neg (fun z => hg (by rw [z]; simp))]
    exact h17 g hg
/-- the list of a channel is changed -/
theorem TalkAt.putF_ (h : TalkAt K R.M CT CS CR B y x ch l1 l2 H) (kk : WE.Ok R m H) {fv fv' : List V} {f' : List PyData} (hl : H l1 = some (.lst fv)) (hf : DqAll K R.M H fv' f') (hi : immAll f' = true) : TalkAt K R.M CT CS CR B { y with f := f' } x ch l1 l2 (upd H l1 (.lst fv')) ∧ Go R m x ch l1 l2 H (upd H l1 (.lst fv')) := by
  obtain ⟨dx, fs, s, r, fv0, gv, h1, h2, h3, h4, h5, h6, h7, h8, h9, h10, h11, h12, h13, h14, h15, h16, h17⟩ := h.ex
  have mt : WE.Mut (.lst fv) := .inl ⟨_, rfl⟩
  have t : Tx H (upd H l1 (.lst fv')) := tx_mut hl mt
  have ns : s ≠ l1 := fun z => by
    obtain ⟨_, _, g, _⟩ := h6
    rw [z, hl] at g
    cases g
  have nr : r ≠ l1 := fun z => by
    obtain ⟨_, _, g, _⟩ := h7
    rw [z, hl] at g
    cases g
  exact ⟨⟨h.nx, h.nc, h.n1, h.n2, h.ne, hi, h.ig, dx, fs, s, r, fv', gv, by rw [upd_ne (ne_of h1 hl (fun z => nomatch z))]; exact h1, h2, h3, h4, h5, ins_upd h6 hl mt ns, ins_upd h7 hl mt nr, h8, h9, h10, by rw [upd_ne (ne_of h11 hl (fun z => nomatch z))]; exact h11, upd_same, by rw [upd_ne h.ne.symm]; exact h13, hf.imm t hi, h15.imm t h.ig, h16, h17⟩, ok_mut kk hl mt h.n1, xt_mut hl mt (.inr (.inr (.inr (.inl rfl))))⟩
theorem TalkAt.putG_ (h : TalkAt K R.M CT CS CR B y x ch l1 l2 H) (kk : WE.Ok R m H) {fv fv' : List V} {f' : List PyData} (hl : H l2 = some (.lst fv)) (hf : DqAll K R.M H fv' f') (hi : immAll f' = true) : TalkAt K R.M CT CS CR B { y with g := f' } x ch l1 l2 (upd H l2 (.lst fv')) ∧ Go R m x ch l1 l2 H (upd H l2 (.lst fv')) := by
  obtain ⟨dx, fs, s, r, fv0, gv, h1, h2, h3, h4, h5, h6, h7, h8, h9, h10, h11, h12, h13, h14, h15, h16, h17⟩ := h.ex
  have mt : WE.Mut (.lst fv) := .inl ⟨_, rfl⟩
  have t : Tx H (upd H l2 (.lst fv')) := tx_mut hl mt
  have ns : s ≠ l2 := fun z => by
    obtain ⟨_, _, g, _⟩ := h6
    rw [z, hl] at g
    cases g
  have nr : r ≠ l2 := fun z => by
    obtain ⟨_, _, g, _⟩ := h7
    rw [z, hl] at g
    cases g
  exact ⟨⟨h.nx, h.nc, h.n1, h.n2, h.ne, h.if_, hi, dx, fs, s, r, fv0, fv', by rw [upd_ne (ne_of h1 hl (fun z => nomatch z))]; exact h1, h2, h3, h4, h5, ins_upd h6 hl mt ns, ins_upd h7 hl mt nr, h8, h9, h10, by rw [upd_ne (ne_of h11 hl (fun z => nomatch z))]; exact h11, by rw [upd_ne h.ne]; exact h12, upd_same, h14.imm t h.if_, hf.imm t hi, h16, h17⟩, ok_mut kk hl mt h.n2, xt_mut hl mt (.inr (.inr (.inr (.inr rfl))))⟩
end
end LW

set_option Elab.async false
set_option linter.all false
set_option maxRecDepth 100000
set_option maxHeartbeats 8000000
namespace LW
open PySem PySem.Spec PyProof.Rows L2 LamX NdefX WE WLam WQ
/-- the class Talk -/
structure TkC (K : PySem.W.Frag) (CT : Addr) : Prop where
  cl : Cls K CT
  no : ∀ f ∈ fiveF, NoAttr K CT f
def tkP (K : PySem.W.Frag) (R : Rs) (CT CS CR : Addr) (B : Tb) (y : Sd) (x ch l1 l2 : Addr) : Rp R := ⟨fun v H => v = .ref x ∧ TalkAt K R.M CT CS CR B y x ch l1 l2 H, fun _ _ _ xt ⟨e, h⟩ => ⟨e, h.mono xt⟩⟩
def Sd.chn (y : Sd) (z : Str) : List PyData := if z = "forward" then y.f else y.g
def Sd.put (y : Sd) (z : Str) (l : List PyData) : Sd := if z = "forward" then { y with f := l } else { y with g := l }
def chAt (l1 l2 : Addr) (z : Str) : Addr := if z = "forward" then l1 else l2
section
variable {K : PySem.W.Frag} {R : Rs} {CT CS CR : Addr} {B : Tb} {y : Sd} {x ch l1 l2 : Addr} {σ : L2.St} {H H' : Hp} {n m k : Nat} {te tb ti : TE} {D : Ends} {tz : TS} {d : PyData}
theorem ev_fldA (C : TkC K CT) (h : Ev R n m te σ H (tkP K R CT CS CR B y x ch l1 l2)) : Ev R n m (tFld K te "sender_state") σ H (iP R (· = ((y.a : Nat) : Int))) := fun H1 x1 k1 Q q =>
  h H1 x1 k1 _ fun v H2 x2 k2 ⟨e, tk⟩ => by
    obtain ⟨dx, fs, s, r, fv, gv, h1, h2, h3, h4, h5, h6, h7, h8, h9, h10, h11, h12, h13, h14, h15, h16, h17⟩ := tk.ex
    exact ⟨x, CT, dx, fs, _, e, h1, C.cl, C.no _ (by simp), h8, q _ H2 x2 k2 ⟨_, rfl, rfl⟩⟩
theorem ev_fldB (C : TkC K CT) (h : Ev R n m te σ H (tkP K R CT CS CR B y x ch l1 l2)) : Ev R n m (tFld K te "receiver_state") σ H (iP R (· = ((y.b : Nat) : Int))) := fun H1 x1 k1 Q q =>
  h H1 x1 k1 _ fun v H2 x2 k2 ⟨e, tk⟩ => by
    obtain ⟨dx, fs, s, r, fv, gv, h1, h2, h3, h4, h5, h6, h7, h8, h9, h10, h11, h12, h13, h14, h15, h16, h17⟩ := tk.ex
    exact ⟨x, CT, dx, fs, _, e, h1, C.cl, C.no _ (by simp), h9, q _ H2 x2 k2 ⟨_, rfl, rfl⟩⟩
theorem ev_fldS (C : TkC K CT) (h : Ev R n m te σ H (tkP K R CT CS CR B y x ch l1 l2)) : Ev R n m (tFld K te "sender_tables") σ H (oP K R CS B.fS) := fun H1 x1 k1 Q q =>
  h H1 x1 k1 _ fun v H2 x2 k2 ⟨e, tk⟩ => by
    obtain ⟨dx, fs, s, r, fv, gv, h1, h2, h3, h4, h5, h6, h7, h8, h9, h10, h11, h12, h13, h14, h15, h16, h17⟩ := tk.ex
    exact ⟨x, CT, dx, fs, _, e, h1, C.cl, C.no _ (by simp), h2, q _ H2 x2 k2 ⟨s, rfl, h4.1, h6⟩⟩
theorem ev_fldR (C : TkC K CT) (h : Ev R n m te σ H (tkP K R CT CS CR B y x ch l1 l2)) : Ev R n m (tFld K te "receiver_tables") σ H (oP K R CR B.fR) := fun H1 x1 k1 Q q =>
  h H1 x1 k1 _ fun v H2 x2 k2 ⟨e, tk⟩ => by
    obtain ⟨dx, fs, s, r, fv, gv, h1, h2, h3, h4, h5, h6, h7, h8, h9, h10, h11, h12, h13, h14, h15, h16, h17⟩ := tk.ex
    exact ⟨x, CT, dx, fs, _, e, h1, C.cl, C.no _ (by simp), h3, q _ H2 x2 k2 ⟨r, rfl, h5.1, h7⟩⟩
/-- self.channels[z] -/
theorem ev_ch (C : TkC K CT) (h : Ev R n k te σ H (tkP K R CT CS CR B y x ch l1 l2)) {z : Str} (hz : z = "forward" ∨ z = "backward") (hk : Ev R k m tb σ H (dP K R (· = .str z))) : Ev R n m (tDGet (tFld K te "channels") tb) σ H (⟨fun v H' => v = .ref (chAt l1 l2 z) ∧ TalkAt K R.M CT CS CR B y x ch l1 l2 H', fun _ _ _ xt ⟨e, h⟩ => ⟨e, h.mono xt⟩⟩ : Rp R) := fun H1 x1 k1 Q q =>
  h H1 x1 k1 _ fun v H2 x2 k2 ⟨e, tk⟩ => by
    obtain ⟨dx, fs, s, r, fv, gv, h1, h2, h3, h4, h5, h6, h7, h8, h9, h10, h11, h12, h13, h14, h15, h16, h17⟩ := tk.ex
    refine ⟨x, CT, dx, fs, _, e, h1, C.cl, C.no _ (by simp), h10, ?_⟩
    refine hk H2 (x1.trans x2) k2 _ fun u H3 x3 k3 ⟨d, hd, e2⟩ => ?_
    subst e2
    have eu := dq_str hd
    subst eu
    have c3 : H3 ch = some (.dK (chK l1 l2)) := x3.keep ch _ h11 tk.nc (fun _ z => nomatch z)
    refine ⟨ch, .ref (chAt l1 l2 z), rfl, .inl ⟨_, .inr z, .inl c3, rfl, ?_⟩, q _ H3 (x2.trans x3) k3 ⟨rfl, tk.mono x3⟩⟩
    rcases hz with rfl | rfl
    · rfl
    · rfl
/-- self.sender_state = e -/
theorem s_putA (C : TkC K CT) (kk : WE.Ok R n H) (tk : TalkAt K R.M CT CS CR B y x ch l1 l2 H) {i a : Nat} (hs : σ[i]? = some (some (.ref x))) (h : Ev R n m te σ H (iP R (· = ((a : Nat) : Int)))) (q : ∀ H', Go R m x ch l1 l2 H H' → TalkAt K R.M CT CS CR B { y with a := a } x ch l1 l2 H' → D.nx σ H') : sFld K (tVar i) te "sender_state" D σ H :=
  h H (.refl _) kk _ fun v H1 x1 k1 ⟨z, e, ez⟩ => by
    have ez : z = ((a : Nat) : Int) := ez
    subst e ez
    have tk1 := tk.mono x1
    obtain ⟨dx, fs, s, r, fv, gv, h1, h2, h3, h4, h5, h6, h7, h8, h9, h10, h11, h12, h13, h14, h15, h16, h17⟩ := id tk1.ex
    refine ⟨_, hs, x, CT, dx, fs, rfl, h1, C.cl, C.no _ (by simp), by omega, ?_⟩
    obtain ⟨t2, g2⟩ := tk1.putA k1 h1 a
    exact q _ ((Go.of k1 x1).trans g2) t2
theorem s_putB (C : TkC K CT) (kk : WE.Ok R n H) (tk : TalkAt K R.M CT CS CR B y x ch l1 l2 H) {i a : Nat} (hs : σ[i]? = some (some (.ref x))) (h : Ev R n m te σ H (iP R (· = ((a : Nat) : Int)))) (q : ∀ H', Go R m x ch l1 l2 H H' → TalkAt K R.M CT CS CR B { y with b := a } x ch l1 l2 H' → D.nx σ H') : sFld K (tVar i) te "receiver_state" D σ H :=
  h H (.refl _) kk _ fun v H1 x1 k1 ⟨z, e, ez⟩ => by
    have ez : z = ((a : Nat) : Int) := ez
    subst e ez
    have tk1 := tk.mono x1
    obtain ⟨dx, fs, s, r, fv, gv, h1, h2, h3, h4, h5, h6, h7, h8, h9, h10, h11, h12, h13, h14, h15, h16, h17⟩ := id tk1.ex
    refine ⟨_, hs, x, CT, dx, fs, rfl, h1, C.cl, C.no _ (by simp), by omega, ?_⟩
    obtain ⟨t2, g2⟩ := tk1.putB k1 h1 a
    exact q _ ((Go.of k1 x1).trans g2) t2
theorem TalkAt.chl (tk : TalkAt K R.M CT CS CR B y x ch l1 l2 H) (z : Str) : ∃ fv, H (chAt l1 l2 z) = some (.lst fv) ∧ DqAll K R.M H fv (y.chn z) ∧ immAll (y.chn z) = true ∧ ¬ R.M (chAt l1 l2 z) := by
  obtain ⟨dx, fs, s, r, fv, gv, h1, h2, h3, h4, h5, h6, h7, h8, h9, h10, h11, h12, h13, h14, h15, h16, h17⟩ := tk.ex
  unfold chAt Sd.chn
  split
  · exact ⟨fv, h12, h14, tk.if_, tk.n1⟩
  · exact ⟨gv, h13, h15, tk.ig, tk.n2⟩
theorem TalkAt.putL (tk : TalkAt K R.M CT CS CR B y x ch l1 l2 H) (kk : WE.Ok R m H) (z : Str) {fv fv' : List V} {f' : List PyData} (hl : H (chAt l1 l2 z) = some (.lst fv)) (hf : DqAll K R.M H fv' f') (hi : immAll f' = true) : TalkAt K R.M CT CS CR B (y.put z f') x ch l1 l2 (upd H (chAt l1 l2 z) (.lst fv')) ∧ Go R m x ch l1 l2 H (upd H (chAt l1 l2 z) (.lst fv')) := by
  unfold chAt at hl ⊢
  unfold Sd.put
  split
  · rename_i e
    rw [if_pos e] at hl
    exact tk.putF_ kk hl hf hi
  · rename_i e
    rw [if_neg e] at hl
    exact tk.putG_ kk hl hf hi
/-- self.channels[z].append(e) -/
theorem s_chApp (C : TkC K CT) (kk : WE.Ok R n H) (tk : TalkAt K R.M CT CS CR B y x ch l1 l2 H) {i : Nat} {z : Str} (hz : z = "forward" ∨ z = "backward") (hs : σ[i]? = some (some (.ref x))) (h : Ev R n m te σ H (dP K R (· = d))) (hd : imm d = true) (hl : (y.chn z).length ≤ 1000) (q : ∀ H', Go R m x ch l1 l2 H H' → TalkAt K R.M CT CS CR B (y.put z (y.chn z ++ [d])) x ch l1 l2 H' → D.nx σ H') :
    tDrop (tBM K "list" rAppend (tDGet (tFld K (tVar i) "channels") (tC (.str z))) (tCons te tNil)) D σ H := by
  refine ev_ch C (ev_var (P := tkP K R CT CS CR B y x ch l1 l2) hs ⟨rfl, tk⟩) hz (ev_ds (z := z)) H (.refl _) kk _ fun v H1 x1 k1 ⟨e, tk1⟩ => ?_
  subst e
  obtain ⟨fv, g1, g2, g3, g4⟩ := tk1.chl z
  refine ⟨.inl ⟨rfl, fv, .inl (.inl g1)⟩, ?_⟩
  refine h H1 x1 k1 _ fun u H2 x2 k2 ⟨d', hd', e⟩ => ?_
  subst e
  have tk2 := tk1.mono x2
  have g1' : H2 (chAt l1 l2 z) = some (.lst fv) := x2.keep _ _ g1 g4 (fun _ z => nomatch z)
  obtain ⟨t3, go3⟩ := tk2.putL k2 z (fv' := fv ++ [u]) (f' := y.chn z ++ [d']) g1' ((g2.mono x2).append (.cons hd' .nil)) (immAll_mem fun w hw => by
    rcases List.mem_append.mp hw with a | a
    · exact immAll_get g3 w a
    · rw [List.mem_singleton.mp a]
      exact hd)
  have := g2.length
  exact ⟨_, fv, u, rfl, rfl, g1', Nat.lt_of_le_of_lt (by omega) (show 1000 < sizeLine by decide), q _ ((Go.of k2 (x1.trans x2)).trans go3) t3⟩
/-- m = self.channels[z].pop(0) -/
theorem q_chPop (C : TkC K CT) (kk : WE.Ok R n H) (tk : TalkAt K R.M CT CS CR B y x ch l1 l2 H) {i j : Nat} {z : Str} (hz : z = "forward" ∨ z = "backward") (hs : σ[i]? = some (some (.ref x))) (hne : y.chn z ≠ []) (q : ∀ v H', Go R n x ch l1 l2 H H' → TalkAt K R.M CT CS CR B (y.put z (y.chn z).tail) x ch l1 l2 H' → Dq K R.M H' v (at_ (y.chn z) 0) → tz D (σ.set j (some v)) H') :
    tSeq (tAsg (tBM K "list" rPopAt (tDGet (tFld K (tVar i) "channels") (tC (.str z))) (tCons (tC (.int 0)) tNil)) (gName j)) tz D σ H := by
  refine ev_ch C (ev_var (P := tkP K R CT CS CR B y x ch l1 l2) hs ⟨rfl, tk⟩) hz (ev_ds (z := z)) H (.refl _) kk _ fun v H1 x1 k1 ⟨e, tk1⟩ => ?_
  subst e
  obtain ⟨fv, g1, g2, g3, g4⟩ := tk1.chl z
  refine ⟨.inl ⟨rfl, fv, .inl (.inl g1)⟩, ?_⟩
  have hlen := g2.length
  have hpos := List.length_pos_iff.mpr hne
  obtain ⟨u, hu, hdu⟩ := g2.get (at_get hpos)
  obtain ⟨t3, go3⟩ := tk1.putL k1 z (fv' := fv.eraseIdx 0) (f' := (y.chn z).tail) g1 (by
    cases fv with
    | nil => exact absurd hlen.symm (by simp; exact hne)
    | cons a fv =>
      obtain ⟨d0, ds0, e0⟩ : ∃ d0 ds0, y.chn z = d0 :: ds0 := by
        cases q : y.chn z with
        | nil => exact absurd q hne
        | cons a b => exact ⟨a, b, rfl⟩
      rw [e0] at g2 ⊢
      cases g2 with
      | cons a b => exact b) (immAll_mem fun w hw => immAll_get g3 w (List.mem_of_mem_tail hw))
  refine ⟨_, fv, 0, 0, u, rfl, rfl, g1, by decide, by decide, ?_, hu, q u _ ((Go.of k1 x1).trans go3) t3 (hdu.imm (tx_mut g1 (.inl ⟨_, rfl⟩)) (immAll_get g3 _ (at_mem hpos)))⟩
  unfold seqIndex?
  simp only [if_neg (show ¬ (0 : Int) < 0 by decide)]
  rw [if_pos (by simp; omega)]
  rfl
/-- del self.channels[z][i] -/
theorem s_chDel (C : TkC K CT) (kk : WE.Ok R n H) (tk : TalkAt K R.M CT CS CR B y x ch l1 l2 H) {i j : Nat} {z : Str} (hz : z = "forward" ∨ z = "backward") (hs : σ[i]? = some (some (.ref x))) (hk : Ev R n k tb σ H (dP K R (· = .str z))) (hi : Ev R k m ti σ H (iP R (· = ((j : Nat) : Int)))) (hj : j < (y.chn z).length) (hl : (y.chn z).length ≤ 1000) (q : ∀ H', Go R m x ch l1 l2 H H' → TalkAt K R.M CT CS CR B (y.put z ((y.chn z).eraseIdx j)) x ch l1 l2 H' → D.nx σ H') :
    tDelL (tDGet (tFld K (tVar i) "channels") tb) ti D σ H := by
  refine ev_ch C (ev_var (P := tkP K R CT CS CR B y x ch l1 l2) hs ⟨rfl, tk⟩) hz hk H (.refl _) kk _ fun v H1 x1 k1 ⟨e, tk1⟩ => ?_
  subst e
  refine hi H1 x1 k1 _ fun u H2 x2 k2 ⟨w, e, ew⟩ => ?_
  have ew : w = ((j : Nat) : Int) := ew
  subst e ew
  have tk2 := tk1.mono x2
  obtain ⟨fv, g1, g2, g3, g4⟩ := tk2.chl z
  have hlen := g2.length
  have er : ∀ {xs : List V} {ds : List PyData} {a : Nat}, DqAll K R.M H2 xs ds → DqAll K R.M H2 (xs.eraseIdx a) (ds.eraseIdx a) := by
    intro xs ds a h
    rw [List.eraseIdx_eq_take_drop_succ, List.eraseIdx_eq_take_drop_succ]
    exact (h.take _).append (h.drop _)
  obtain ⟨t3, go3⟩ := tk2.putL k2 z (fv' := fv.eraseIdx j) (f' := (y.chn z).eraseIdx j) g1 (er g2) (immAll_mem fun w hw => immAll_get g3 w (List.mem_of_mem_eraseIdx hw))
  refine ⟨_, fv, _, j, rfl, rfl, g1, by omega, by omega, ?_, q _ ((Go.of k2 (x1.trans x2)).trans go3) t3⟩
  unfold seqIndex?
  simp only [if_neg (show ¬ (((j : Nat) : Int) < 0) by omega)]
  rw [if_pos (by simp; omega), Int.toNat_natCast]
end
end LW

set_option Elab.async false
set_option linter.all false
set_option maxRecDepth 100000
set_option maxHeartbeats 8000000
namespace LW
open PySem PySem.Spec PyProof.Rows L2 LamX NdefX WE WLam WQ
theorem Room.units1 {k : Nat} {A : Around} (r : Room k A) : A.units + 1 < cLine := by have := r.un; omega
/-- a method, by its text; by its contract -/
structure DefT (K : PySem.W.Frag) (C : Addr) (m qual : Str) (st : Stmt) : Prop where
  ex : ∃ (f : Addr) (fd : FuncData), Meth K C m f ∧ FunD K m qual (defArgs st) (defBody st) (defScope st) [] [] f fd
structure MetT (P : Program) (w : World) (K : PySem.W.Frag) (mg : Str → Option Value) (base : Heap) (k : Nat) (C : Addr) (m : Str) (sp : Sp) : Prop where
  ex : ∃ (f : Addr) (fd : FuncData) (ps : List Str), Meth K C m f ∧ FnOk P w K mg base CX0 k f fd ps sp ∧ Binds K fd ps []
section
variable {P : Program} {w : World} {K : PySem.W.Frag} {mg : Str → Option Value} {base : Heap}
theorem met_of {C : Addr} {m qual : Str} {st : Stmt} {N ps : List Str} {k : Nat} {sp : Sp} (D : DefT K C m qual st) (S : FnScope N ps (defScope st))
    (hb : ∀ (kV doc pm : Value) (an : Option Addr) (cdv ct : Value) (us : List Value), us.length = ps.length → bindArgs (PySem.W.fnOf m qual (defArgs st) (defBody st) (defScope st) .none kV doc pm an cdv ct) ⟨us, []⟩ = pure (ps.zip us))
    (len : ∀ vs H Q E, sp vs H Q E → vs.length = ps.length)
    (hbody : ∀ (f : Addr) (cdv : Value) (A : Around) (outer : List Env) (s : Shared) (H : Hp) (vs : List V) (Q : VK) (E : XK), Room k (A.deeper (envOfC qual (defScope st) s.heap.objs.size f cdv)) → sp vs H Q E →
      ∃ t, PSs (cxOf CX0 P w K mg base N qual (defScope st) f cdv A outer s H E).nox (defBody st) t ∧ t { nx := fun _ H' => Q .non H', rt := Q } (L2.start N vs) H) : MetT P w K mg base (k + 1) C m sp := by
  obtain ⟨f, fd, hm, F⟩ := D.ex
  refine ⟨f, fd, ps, hm, ?_, F.bindsN hb⟩
  refine F.ok S len fun cdv A outer s H vs Q E hr hsp => ?_
  obtain ⟨t, h, q⟩ := hbody f cdv A outer s H vs Q E hr hsp
  exact ⟨t, h.nox, q⟩
section
variable {X : Cx} {C : Addr} {m : Str} {sp : Sp} {k j : Nat} {o e : Expr} {es : List Expr} {ta : TE} {t : TA} {apos pos : Pos} {pl : Sem Bool}
theorem pe_mm (M : MetT X.prog X.w X.K X.mg X.base k C m sp) (c : Cls X.K C) (hr : Room j X.A) (hk : k ≤ j) (he : PE X o ta) (ha : PA X (e :: es) t)
    (hst : starEach (e :: es) X.env = (false, eval e X.env) :: starEach es X.env := by rfl) (hpl : (backTo pos (starEach es X.env)).any (·.1) = false := by rfl)
    (ht : eval (.Call (.Attribute o m apos) (e :: es) [] pos) X.env = (do
      let ov ← eval o X.env
      standAt apos.atName
      let (f, first) ← holding [ov] (getMethod ov m pl)
      callWith pos f first (backTo pos (starEach (e :: es) X.env)) (backToKw pos (keywordEach [] X.env))) := by rfl) :
    PE X (.Call (.Attribute o m apos) (e :: es) [] pos) (tMeth C m sp [] E0 ta t) := by
  obtain ⟨f, fd, ps, h1, h2, h3⟩ := M.ex
  exact pe_meth he c h1 h2 (hr.mono hk) h3 .nil pass0 ha hst hpl ht
theorem pe_mm0 (M : MetT X.prog X.w X.K X.mg X.base k C m sp) (c : Cls X.K C) (hr : Room j X.A) (hk : k ≤ j) (he : PE X o ta)
    (ht : eval (.Call (.Attribute o m apos) [] [] pos) X.env = (do
      let ov ← eval o X.env
      standAt apos.atName
      let (f, first) ← holding [ov] (getMethod ov m pl)
      callWith pos f first (backTo pos (starEach [] X.env)) (backToKw pos (keywordEach [] X.env))) := by rfl) :
    PE X (.Call (.Attribute o m apos) [] [] pos) (tMeth C m sp [] E0 ta tNil) := by
  obtain ⟨f, fd, ps, h1, h2, h3⟩ := M.ex
  exact pe_meth0 he c h1 h2 (hr.mono hk) h3 .nil pass0 ht
end
end
/-- a method that lets one event happen -/
def SpMv (T : List (Addr × Str)) (K : PySem.W.Frag) (CT CS CR : Addr) (e : Evt) : Sp := fun vs H Q _ => vs.length = 1 ∧ ∃ (R : Rs) (m : Nat) (B : Tb) (y : Sd) (x ch l1 l2 : Addr), R.T = T ∧ vs = [.ref x] ∧ WE.Ok R m H ∧ TalkAt K R.M CT CS CR B y x ch l1 l2 H ∧ B.Ok ∧ B.Wf y ∧ B.Can y e ∧ y.Sm ∧
  ∀ v H', Go R m x ch l1 l2 H H' → TalkAt K R.M CT CS CR B (B.step y e) x ch l1 l2 H' → Dq K R.M H' v (B.gift y e) → Q v H'
section
variable {P : Program} {w : World} {K : PySem.W.Frag} {mg : Str → Option Value} {base : Heap} {T : List (Addr × Str)} {CT CS CR : Addr}
theorem evt_nn {R : Rs} {σ : L2.St} {H : Hp} {m i : Nat} {v : V} {d : PyData} (h : σ[i]? = some (some v)) (hd : Dq K R.M H v d) : EvT R m m (tTest (tOp (fun x y H Q => y = .non ∧ Q (.bl (!decide (x = .non))) H) (tVar i) (tC .non))) σ H (· = !isNonD d) :=
  evt_test ((ev_notN (ev_dvar h hd)).imp fun v H' _ ⟨b, e, d, e1, e2⟩ => ⟨b, e, by rw [e2, show d = _ from e1]⟩)
theorem put_non {l : List PyData} {d : PyData} (h : isNonD d = true) : put l d = l := by unfold put; rw [h]; rfl
theorem put_some {l : List PyData} {d : PyData} (h : isNonD d = false) : put l d = l ++ [d] := by unfold put; rw [h]; rfl
/-! ### send, answer -/
theorem sc_Talk_send : FnScope ["self", "message"] ["self"] (defScope s_Talk_send) := ⟨rfl, rfl, rfl, by decide +kernel, rfl, by decide +kernel, by decide +kernel⟩
theorem met_send (D : DefT K CT "send" "Talk.send" s_Talk_send) (C : TkC K CT) (NS : Prp8 P w K mg base CS "takes" "_takes") : MetT P w K mg base 3 CT "send" (SpMv T K CT CS CR .send) := by
  refine met_of D sc_Talk_send (fun _ _ _ _ _ _ us hl => match us, hl with | [_], _ => rfl) (fun vs H Q E h => h.1) (fun f cdv A outer s0 H vs Q E hr hh => ?_)
  obtain ⟨_, R, m, B, y, x, ch, l1, l2, rfl, rfl, ok, tk, O, W, Cn, sm, q⟩ := hh
  refine ⟨_, pss_cons (ps_set (i := 1) sc_Talk_send.nd rfl (.inl rfl) (pe_ix (r := rIx K) ix_seq (pe_prp (pe_fld (pv 0) rfl) NS.cl.cl NS.p4 hr (by decide)) (pe_fld (pv 0) rfl) (fun _ _ => rfl)))
    (pss_cons (ps_if (pt_cmpR op_notN (pv 1) pe_non (nomark _)) (pss_one (ps_expr (pe_bm PySem.F.plainAttrs_list PySem.F.slot_list_append PySem.F.type_list_append mt_append (pe_dget (Room.units1 hr) (pe_fld (pv 0) rfl) pe_str (fun _ _ => rfl)) (pa_cons (pv 1) pa_nil)))) pss_nil)
    (pss_one (ps_fld (pv 0) (pe_ix (r := rIx K) ix_seq (pe_prp (pe_fld (pv 0) rfl) NS.cl.cl NS.p5 hr (by decide)) (pe_fld (pv 0) rfl) (fun _ _ => rfl)) rfl))), ?_⟩
  have self : ∀ {y' : Sd} {H' : Hp} {σ : L2.St}, σ[0]? = some (some (.ref x)) → TalkAt K R.M CT CS CR B y' x ch l1 l2 H' → Ev R m m (tVar 0) σ H' (tkP K R CT CS CR B y' x ch l1 l2) := fun h t => ev_var h ⟨rfl, t⟩
  refine q_asg (m := m) ok (ev_nth (i := y.a) (ev_prp (ev_fldS C (self rfl tk)) (by simp [Tb.fS, sndF])) (ev_fldA C (self rfl tk)) W.a) fun v1 H1 x1 k1 ⟨d, hd, e⟩ => ?_
  subst e
  have fin : ∀ {H' : Hp}, Go R m x ch l1 l2 H H' → TalkAt K R.M CT CS CR B { y with f := put y.f (at_ B.s y.a) } x ch l1 l2 H' → sFld K (tVar 0) (tOp (rIx K) (tProp CS (getSp CS "_ticks") [] E0 (tFld K (tVar 0) "sender_tables")) (tFld K (tVar 0) "sender_state")) "sender_state" { nx := fun _ H' => Q .non H', rt := Q } [some (.ref x), some v1] H' := fun {H'} go t =>
    s_putA (n := m) (m := m) (a := fi (at_ B.t y.a)) C go.ok t rfl (ev_intOf (ev_nth (i := y.a) (ev_prp (ev_fldS C (self rfl t)) (by simp [Tb.fS, sndF])) (ev_fldA (y := { y with f := put y.f (at_ B.s y.a) }) C (self rfl t)) (by rw [O.S.tl]; exact W.a)) (below_inv (O.tb W.a)).1) fun H2 go2 t2 => q .non H2 (go.trans go2) t2 .non
  refine q_if (m := m) k1 (evt_nn rfl hd) (fun hb H2 x2 k2 => ?_) fun hb H2 x2 k2 => ?_
  · have hn : isNonD (at_ B.s y.a) = false := by
      cases h : isNonD (at_ B.s y.a) with
      | true => rw [h] at hb; cases hb
      | false => rfl
    refine s_chApp (m := m) C k2 (tk.mono (x1.trans x2)) (.inl rfl) rfl (ev_dvar rfl (hd.mono x2)) (imm_nonBelow (O.sb W.a)) sm.f fun H3 go3 t3 => fin ((Go.of k2 (x1.trans x2)).trans go3) ?_
    rw [put_some hn]
    exact t3
  · have hn : isNonD (at_ B.s y.a) = true := by
      cases h : isNonD (at_ B.s y.a) with
      | false => rw [h] at hb; cases hb
      | true => rfl
    refine fin (Go.of k2 (x1.trans x2)) ?_
    rw [put_non hn]
    exact tk.mono (x1.trans x2)
theorem sc_Talk_answer : FnScope ["self", "message"] ["self"] (defScope s_Talk_answer) := ⟨rfl, rfl, rfl, by decide +kernel, rfl, by decide +kernel, by decide +kernel⟩
theorem met_answer (D : DefT K CT "answer" "Talk.answer" s_Talk_answer) (C : TkC K CT) (NR : Prp8 P w K mg base CR "gives" "_gives") : MetT P w K mg base 3 CT "answer" (SpMv T K CT CS CR .answer) := by
  refine met_of D sc_Talk_answer (fun _ _ _ _ _ _ us hl => match us, hl with | [_], _ => rfl) (fun vs H Q E h => h.1) (fun f cdv A outer s0 H vs Q E hr hh => ?_)
  obtain ⟨_, R, m, B, y, x, ch, l1, l2, rfl, rfl, ok, tk, O, W, Cn, sm, q⟩ := hh
  refine ⟨_, pss_cons (ps_set (i := 1) sc_Talk_answer.nd rfl (.inl rfl) (pe_ix (r := rIx K) ix_seq (pe_prp (pe_fld (pv 0) rfl) NR.cl.cl NR.p4 hr (by decide)) (pe_fld (pv 0) rfl) (fun _ _ => rfl)))
    (pss_cons (ps_if (pt_cmpR op_notN (pv 1) pe_non (nomark _)) (pss_one (ps_expr (pe_bm PySem.F.plainAttrs_list PySem.F.slot_list_append PySem.F.type_list_append mt_append (pe_dget (Room.units1 hr) (pe_fld (pv 0) rfl) pe_str (fun _ _ => rfl)) (pa_cons (pv 1) pa_nil)))) pss_nil)
    (pss_one (ps_fld (pv 0) (pe_ix (r := rIx K) ix_seq (pe_prp (pe_fld (pv 0) rfl) NR.cl.cl NR.p5 hr (by decide)) (pe_fld (pv 0) rfl) (fun _ _ => rfl)) rfl))), ?_⟩
  have self : ∀ {y' : Sd} {H' : Hp} {σ : L2.St}, σ[0]? = some (some (.ref x)) → TalkAt K R.M CT CS CR B y' x ch l1 l2 H' → Ev R m m (tVar 0) σ H' (tkP K R CT CS CR B y' x ch l1 l2) := fun h t => ev_var h ⟨rfl, t⟩
  refine q_asg (m := m) ok (ev_nth (i := y.b) (ev_prp (ev_fldR C (self rfl tk)) (by simp [Tb.fR, rcvF])) (ev_fldB C (self rfl tk)) W.b) fun v1 H1 x1 k1 ⟨d, hd, e⟩ => ?_
  subst e
  have fin : ∀ {H' : Hp}, Go R m x ch l1 l2 H H' → TalkAt K R.M CT CS CR B { y with g := put y.g (at_ B.s' y.b) } x ch l1 l2 H' → sFld K (tVar 0) (tOp (rIx K) (tProp CR (getSp CR "_ticks") [] E0 (tFld K (tVar 0) "receiver_tables")) (tFld K (tVar 0) "receiver_state")) "receiver_state" { nx := fun _ H' => Q .non H', rt := Q } [some (.ref x), some v1] H' := fun {H'} go t =>
    s_putB (n := m) (m := m) (a := fi (at_ B.t' y.b)) C go.ok t rfl (ev_intOf (ev_nth (i := y.b) (ev_prp (ev_fldR C (self rfl t)) (by simp [Tb.fR, rcvF])) (ev_fldB (y := { y with g := put y.g (at_ B.s' y.b) }) C (self rfl t)) (by rw [O.R.tl]; exact W.b)) (below_inv (O.tb' W.b)).1) fun H2 go2 t2 => q .non H2 (go.trans go2) t2 .non
  refine q_if (m := m) k1 (evt_nn rfl hd) (fun hb H2 x2 k2 => ?_) fun hb H2 x2 k2 => ?_
  · have hn : isNonD (at_ B.s' y.b) = false := by
      cases h : isNonD (at_ B.s' y.b) with
      | true => rw [h] at hb; cases hb
      | false => rfl
    refine s_chApp (m := m) C k2 (tk.mono (x1.trans x2)) (.inr rfl) rfl (ev_dvar rfl (hd.mono x2)) (imm_nonBelow (O.sb' W.b)) sm.g fun H3 go3 t3 => fin ((Go.of k2 (x1.trans x2)).trans go3) ?_
    rw [put_some hn]
    exact t3
  · have hn : isNonD (at_ B.s' y.b) = true := by
      cases h : isNonD (at_ B.s' y.b) with
      | false => rw [h] at hb; cases hb
      | true => rfl
    refine fin (Go.of k2 (x1.trans x2)) ?_
    rw [put_non hn]
    exact tk.mono (x1.trans x2)
/-! ### pass_forward, pass_backward -/
theorem sc_Talk_pass_forward : FnScope ["self", "message", "value"] ["self"] (defScope s_Talk_pass_forward) := ⟨rfl, rfl, rfl, by decide +kernel, rfl, by decide +kernel, by decide +kernel⟩
theorem met_passF (D : DefT K CT "pass_forward" "Talk.pass_forward" s_Talk_pass_forward) (C : TkC K CT) (NR : Prp8 P w K mg base CR "gives" "_gives") : MetT P w K mg base 3 CT "pass_forward" (SpMv T K CT CS CR .passF) := by
  refine met_of D sc_Talk_pass_forward (fun _ _ _ _ _ _ us hl => match us, hl with | [_], _ => rfl) (fun vs H Q E h => h.1) (fun f cdv A outer s0 H vs Q E hr hh => ?_)
  obtain ⟨_, R, m, B, y, x, ch, l1, l2, rfl, rfl, ok, tk, O, W, Cn, sm, q⟩ := hh
  refine ⟨_, pss_cons (ps_set (i := 1) sc_Talk_pass_forward.nd rfl (.inl rfl) (pe_bm PySem.F.plainAttrs_list PySem.F.slot_list_pop PySem.F.type_list_pop mt_popAt (pe_dget (Room.units1 hr) (pe_fld (pv 0) rfl) pe_str (fun _ _ => rfl)) (pa_cons pe_int pa_nil)))
    (pss_cons (ps_set (i := 2) sc_Talk_pass_forward.nd rfl (.inl rfl) (pe_ix (r := rIx K) ix_seq (pe_ix (r := rIx K) ix_seq (pe_prp (pe_fld (pv 0) rfl) NR.cl.cl NR.p7 hr (by decide)) (pe_fld (pv 0) rfl) (fun _ _ => rfl)) (pv 1) (fun _ _ => rfl)))
    (pss_cons (ps_fld (pv 0) (pe_ix (r := rIx K) ix_seq (pe_ix (r := rIx K) ix_seq (pe_prp (pe_fld (pv 0) rfl) NR.cl.cl NR.p6 hr (by decide)) (pe_fld (pv 0) rfl) (fun _ _ => rfl)) (pv 1) (fun _ _ => rfl)) rfl)
    (pss_one (ps_ret (pv 2))))), ?_⟩
  have self : ∀ {y' : Sd} {H' : Hp} {σ : L2.St}, σ[0]? = some (some (.ref x)) → TalkAt K R.M CT CS CR B y' x ch l1 l2 H' → Ev R m m (tVar 0) σ H' (tkP K R CT CS CR B y' x ch l1 l2) := fun h t => ev_var h ⟨rfl, t⟩
  have hm := below_inv (W.f _ (head_of Cn))
  obtain ⟨ds, e1, e2, e3, e4⟩ := gifts_at (O.gb' W.b) hm.2
  obtain ⟨es, i1, i2, i3, i4⟩ := states_at (O.hb' W.b) hm.2
  refine q_chPop C ok tk (.inl rfl) rfl Cn fun v1 H1 go1 t1 hv1 => ?_
  have hv1 : Dq K R.M H1 v1 (at_ y.f 0) := hv1
  have k1 := go1.ok
  have t1 : TalkAt K R.M CT CS CR B { y with f := y.f.tail } x ch l1 l2 H1 := t1
  refine q_asg (m := m) k1 (ev_nthS (i := fi (at_ y.f 0)) (ev_nth (i := y.b) (ev_prp (ev_fldR C (self rfl t1)) (by simp [Tb.fR, rcvF])) (ev_fldB (y := { y with f := y.f.tail }) C (self rfl t1)) (by rw [O.R.gl]; exact W.b)) (ev_intOf (ev_dvar rfl hv1) hm.1) ⟨ds, e1, e2⟩) fun v2 H2 x2 k2 ⟨d2, hd2, ed2⟩ => ?_
  subst ed2
  have t2 := t1.mono x2
  refine s_putB (n := m) (m := m) (a := fi (ats (at_ B.h' y.b) (fi (at_ y.f 0)))) (D := { nx := fun σ' H' => tRet (tVar 2) { nx := fun _ H' => Q .non H', rt := Q } σ' H', rt := Q }) C k2 t2 rfl (ev_intOf (ev_nthS (i := fi (at_ y.f 0)) (ev_nth (i := y.b) (ev_prp (ev_fldR C (self rfl t2)) (by simp [Tb.fR, rcvF])) (ev_fldB (y := { y with f := y.f.tail }) C (self rfl t2)) (by rw [O.R.hl]; exact W.b)) (ev_intOf (ev_dvar rfl (hv1.mono x2)) hm.1) ⟨es, i1, i2⟩) (below_inv i3).1) fun H3 go3 t3 => ?_
  have hv3 : Dq K R.M H3 v2 (ats (at_ B.g' y.b) (fi (at_ y.f 0))) := hd2.imm go3.xt.tx (imm_nonBelow e3)
  refine s_ret (m := m) go3.ok (ev_dvar rfl hv3) fun v H4 x4 k4 ⟨d, hd, e⟩ => ?_
  subst e
  exact q v H4 (go1.trans ((Go.of k2 x2).trans (go3.trans (Go.of k4 x4)))) (t3.mono x4) hd
theorem sc_Talk_pass_backward : FnScope ["self", "message"] ["self"] (defScope s_Talk_pass_backward) := ⟨rfl, rfl, rfl, by decide +kernel, rfl, by decide +kernel, by decide +kernel⟩
theorem met_passB (D : DefT K CT "pass_backward" "Talk.pass_backward" s_Talk_pass_backward) (C : TkC K CT) (NS : Prp8 P w K mg base CS "takes" "_takes") : MetT P w K mg base 3 CT "pass_backward" (SpMv T K CT CS CR .passB) := by
  refine met_of D sc_Talk_pass_backward (fun _ _ _ _ _ _ us hl => match us, hl with | [_], _ => rfl) (fun vs H Q E h => h.1) (fun f cdv A outer s0 H vs Q E hr hh => ?_)
  obtain ⟨_, R, m, B, y, x, ch, l1, l2, rfl, rfl, ok, tk, O, W, Cn, sm, q⟩ := hh
  refine ⟨_, pss_cons (ps_set (i := 1) sc_Talk_pass_backward.nd rfl (.inl rfl) (pe_bm PySem.F.plainAttrs_list PySem.F.slot_list_pop PySem.F.type_list_pop mt_popAt (pe_dget (Room.units1 hr) (pe_fld (pv 0) rfl) pe_str (fun _ _ => rfl)) (pa_cons pe_int pa_nil)))
    (pss_one (ps_fld (pv 0) (pe_ix (r := rIx K) ix_seq (pe_ix (r := rIx K) ix_seq (pe_prp (pe_fld (pv 0) rfl) NS.cl.cl NS.p6 hr (by decide)) (pe_fld (pv 0) rfl) (fun _ _ => rfl)) (pv 1) (fun _ _ => rfl)) rfl)), ?_⟩
  have self : ∀ {y' : Sd} {H' : Hp} {σ : L2.St}, σ[0]? = some (some (.ref x)) → TalkAt K R.M CT CS CR B y' x ch l1 l2 H' → Ev R m m (tVar 0) σ H' (tkP K R CT CS CR B y' x ch l1 l2) := fun h t => ev_var h ⟨rfl, t⟩
  have hm := below_inv (W.g _ (head_of Cn))
  obtain ⟨es, i1, i2, i3, i4⟩ := states_at (O.hb W.a) hm.2
  refine q_chPop C ok tk (.inr rfl) rfl Cn fun v1 H1 go1 t1 hv1 => ?_
  have hv1 : Dq K R.M H1 v1 (at_ y.g 0) := hv1
  have t1 : TalkAt K R.M CT CS CR B { y with g := y.g.tail } x ch l1 l2 H1 := t1
  refine s_putA (n := m) (m := m) (a := fi (ats (at_ B.h y.a) (fi (at_ y.g 0)))) C go1.ok t1 rfl (ev_intOf (ev_nthS (i := fi (at_ y.g 0)) (ev_nth (i := y.a) (ev_prp (ev_fldS C (self rfl t1)) (by simp [Tb.fS, sndF])) (ev_fldA (y := { y with g := y.g.tail }) C (self rfl t1)) (by rw [O.S.hl]; exact W.a)) (ev_intOf (ev_dvar rfl hv1) hm.1) ⟨es, i1, i2⟩) (below_inv i3).1) fun H3 go3 t3 => q .non H3 (go1.trans go3) t3 .non
end
end LW

set_option Elab.async false
set_option linter.all false
set_option maxRecDepth 100000
set_option maxHeartbeats 8000000
namespace LW
open PySem PySem.Spec PyProof.Rows L2 LamX NdefX WE WLam WQ
def isPF : Evt → Bool
  | .passF => true
  | _ => false
def isPB : Evt → Bool
  | .passB => true
  | _ => false
theorem eqv_strs {a b : Str} : PyData.eqv (.str a) (.str b) = decide (a = b) := by
  by_cases h : a = b
  · subst h
    simp [PyData.eqv]
  · simp [PyData.eqv, h]
theorem eqv_pf {e : Evt} : PyData.eqv e.d (.tuple [.str "pass", .str "forward"]) = isPF e := by
  cases e <;> simp only [Evt.d, PyData.eqv, PyData.eqvAll, isPF] <;> first | decide +kernel | (rw [Bool.and_eq_false_iff]; left; decide +kernel)
theorem eqv_pb {e : Evt} : PyData.eqv e.d (.tuple [.str "pass", .str "backward"]) = isPB e := by
  cases e <;> simp only [Evt.d, PyData.eqv, PyData.eqvAll, isPB] <;> first | decide +kernel | (rw [Bool.and_eq_false_iff]; left; decide +kernel)
section
variable {P : Program} {w : World} {K : PySem.W.Frag} {mg : Str → Option Value} {base : Heap} {T : List (Addr × Str)} {CP CT CS CR : Addr}
section
variable {R : Rs} {B : Tb} {y : Sd} {x ch l1 l2 : Addr} {σ : L2.St} {H H' : Hp} {n m k : Nat} {te tb : TE} {e : Evt}
theorem mv0 {mn : Str} {i : Nat} (kk : WE.Ok R m H) (tk : TalkAt K R.M CT CS CR B y x ch l1 l2 H) (hs : σ[i]? = some (some (.ref x))) (hm : mn ∉ fiveF) (O : B.Ok) (W : B.Wf y) (C : B.Can y e) (sm : y.Sm) {Q : VK} (q : ∀ v H', Go R m x ch l1 l2 H H' → TalkAt K R.M CT CS CR B (B.step y e) x ch l1 l2 H' → Dq K R.M H' v (B.gift y e) → Q v H') :
    tMeth CT mn (SpMv R.T K CT CS CR e) [] E0 (tVar i) tNil σ H Q := by
  obtain ⟨dx, fs, s, r, fv, gv, h1, h2, h3, h4, h5, h6, h7, h8, h9, h10, h11, h12, h13, h14, h15, h16, h17⟩ := id tk.ex
  exact ⟨_, hs, x, dx, fs, rfl, h1, h17 _ hm, rfl, R, m, B, y, x, ch, l1, l2, rfl, rfl, kk, tk, O, W, C, sm, q⟩
theorem ev_lenCh (C : TkC K CT) (h : Ev R n k te σ H (tkP K R CT CS CR B y x ch l1 l2)) {z : Str} (hz : z = "forward" ∨ z = "backward") (hk : Ev R k m tb σ H (dP K R (· = .str z))) : Ev R n m (tCB (fun vs H Q => ∃ (a : Addr) (xs : List V), vs = [V.ref a] ∧ (SqL K H a xs ∨ SqT K H a xs) ∧ Q (.int (xs.length : Int)) H) (tCons (tDGet (tFld K te "channels") tb) tNil)) σ H (iP R (· = (((y.chn z).length : Nat) : Int))) := fun H1 x1 k1 Q q =>
  ev_ch C h hz hk H1 x1 k1 _ fun v H2 x2 k2 ⟨e, tk⟩ => by
    subst e
    obtain ⟨fv, g1, g2, g3, g4⟩ := tk.chl z
    exact ⟨_, fv, rfl, .inl (.inl (.inl g1)), q _ H2 x2 k2 ⟨_, rfl, by rw [g2.length]⟩⟩
end
/-! ### crash -/
theorem sc_Talk_crash : FnScope ["self", "program"] ["self", "program"] (defScope s_Talk_crash) := ⟨rfl, rfl, rfl, by decide +kernel, rfl, by decide +kernel, by decide +kernel⟩
def SpCr (T : List (Addr × Str)) (K : PySem.W.Frag) (CT CS CR : Addr) : Sp := fun vs H Q _ => vs.length = 2 ∧ ∃ (R : Rs) (m : Nat) (B : Tb) (y : Sd) (x ch l1 l2 : Addr) (b : Bool), R.T = T ∧ vs = [.ref x, .str (if b then "sender" else "receiver")] ∧ WE.Ok R m H ∧ TalkAt K R.M CT CS CR B y x ch l1 l2 H ∧ B.Ok ∧ B.Wf y ∧
  ∀ H', Go R m x ch l1 l2 H H' → TalkAt K R.M CT CS CR B (B.step y (if b then .crashS else .crashR)) x ch l1 l2 H' → Q .non H'
theorem met_crash (D : DefT K CT "crash" "Talk.crash" s_Talk_crash) (C : TkC K CT) (NS : Prp8 P w K mg base CS "takes" "_takes") (NR : Prp8 P w K mg base CR "gives" "_gives") : MetT P w K mg base 3 CT "crash" (SpCr T K CT CS CR) := by
  refine met_of D sc_Talk_crash (fun _ _ _ _ _ _ us hl => match us, hl with | [_, _], _ => rfl) (fun vs H Q E h => h.1) (fun f cdv A outer s0 H vs Q E hr hh => ?_)
  obtain ⟨_, R, m, B, y, x, ch, l1, l2, b, rfl, rfl, ok, tk, O, W, q⟩ := hh
  refine ⟨_, pss_one (ps_if (pt_cmpR op_eq (pv 1) pe_str (nomark _)) (pss_one (ps_fld (pv 0) (pe_ix (r := rIx K) ix_seq (pe_prp (pe_fld (pv 0) rfl) NS.cl.cl NS.p8 hr (by decide)) (pe_fld (pv 0) rfl) (fun _ _ => rfl)) rfl))
    (pss_one (ps_fld (pv 0) (pe_ix (r := rIx K) ix_seq (pe_prp (pe_fld (pv 0) rfl) NR.cl.cl NR.p8 hr (by decide)) (pe_fld (pv 0) rfl) (fun _ _ => rfl)) rfl))), ?_⟩
  have self : ∀ {y' : Sd} {H' : Hp} {σ : L2.St}, σ[0]? = some (some (.ref x)) → TalkAt K R.M CT CS CR B y' x ch l1 l2 H' → Ev R m m (tVar 0) σ H' (tkP K R CT CS CR B y' x ch l1 l2) := fun h t => ev_var h ⟨rfl, t⟩
  cases b with
  | true =>
    refine s_ifT (m := m) ok (evt_str (w := "sender") rfl) (by decide +kernel) fun H1 x1 k1 => ?_
    have t1 := tk.mono x1
    exact s_putA (n := m) (m := m) (a := fi (at_ B.r y.a)) C k1 t1 rfl (ev_intOf (ev_nth (i := y.a) (ev_prp (ev_fldS C (self rfl t1)) (by simp [Tb.fS, sndF])) (ev_fldA C (self rfl t1)) (by rw [O.S.rl]; exact W.a)) (below_inv (O.rb W.a)).1) fun H2 go2 t2 => q H2 ((Go.of k1 x1).trans go2) t2
  | false =>
    refine s_ifF (m := m) ok (evt_str (w := "receiver") rfl) (by decide +kernel) fun H1 x1 k1 => ?_
    have t1 := tk.mono x1
    exact s_putB (n := m) (m := m) (a := fi (at_ B.r' y.b)) C k1 t1 rfl (ev_intOf (ev_nth (i := y.b) (ev_prp (ev_fldR C (self rfl t1)) (by simp [Tb.fR, rcvF])) (ev_fldB C (self rfl t1)) (by rw [O.R.rl]; exact W.b)) (below_inv (O.rb' W.b)).1) fun H2 go2 t2 => q H2 ((Go.of k1 x1).trans go2) t2
/-! ### is_free, allows -/
theorem sc_Talk_is_free : FnScope ["self"] ["self"] (defScope s_Talk_is_free) := ⟨rfl, rfl, rfl, by decide +kernel, rfl, by decide +kernel, by decide +kernel⟩
def SpFr (T : List (Addr × Str)) (K : PySem.W.Frag) (CT CS CR : Addr) : Sp := fun vs H Q _ => vs.length = 1 ∧ ∃ (R : Rs) (m : Nat) (B : Tb) (y : Sd) (x ch l1 l2 : Addr), R.T = T ∧ vs = [.ref x] ∧ WE.Ok R m H ∧ TalkAt K R.M CT CS CR B y x ch l1 l2 H ∧ B.Ok ∧ B.Wf y ∧ ∀ H', Xt R H H' → WE.Ok R m H' → Q (.bl (B.free y)) H'
theorem met_free (D : DefT K CT "is_free" "Talk.is_free" s_Talk_is_free) (C : TkC K CT) (NS : Prp8 P w K mg base CS "takes" "_takes") : MetT P w K mg base 3 CT "is_free" (SpFr T K CT CS CR) := by
  refine met_of D sc_Talk_is_free (fun _ _ _ _ _ _ us hl => match us, hl with | [_], _ => rfl) (fun vs H Q E h => h.1) (fun f cdv A outer s0 H vs Q E hr hh => ?_)
  obtain ⟨_, R, m, B, y, x, ch, l1, l2, rfl, rfl, ok, tk, O, W, q⟩ := hh
  refine ⟨_, pss_one (ps_ret (pe_cmpR op_notN (pe_ix (r := rIx K) ix_seq (pe_prp (pe_fld (pv 0) rfl) NS.cl.cl NS.p7 hr (by decide)) (pe_fld (pv 0) rfl) (fun _ _ => rfl)) pe_non (nomark _))), ?_⟩
  refine s_ret (m := m) ok (ev_notN (ev_nth (i := y.a) (ds := B.k) (ev_prp (ev_fldS C (ev_var (P := tkP K R CT CS CR B y x ch l1 l2) rfl ⟨rfl, tk⟩)) (by simp [Tb.fS, sndF])) (ev_fldA C (ev_var (P := tkP K R CT CS CR B y x ch l1 l2) rfl ⟨rfl, tk⟩)) (by rw [O.S.kl]; exact W.a))) fun v H1 x1 k1 ⟨b, e, d, e1, e2⟩ => ?_
  have e1 : d = at_ B.k y.a := e1
  subst e e1
  rw [e2]
  exact q H1 x1 k1
theorem ev_free {R : Rs} {B : Tb} {y : Sd} {x ch l1 l2 : Addr} {σ : L2.St} {H : Hp} {n m : Nat} {te : TE} (h : Ev R n m te σ H (tkP K R CT CS CR B y x ch l1 l2)) (O : B.Ok) (W : B.Wf y) : Ev R n m (tMeth CT "is_free" (SpFr R.T K CT CS CR) [] E0 te tNil) σ H (bP R (· = B.free y)) := fun H1 x1 k1 Q q =>
  h H1 x1 k1 _ fun v H2 x2 k2 ⟨e, tk⟩ => by
    subst e
    obtain ⟨dx, fs, s, r, fv, gv, h1, h2, h3, h4, h5, h6, h7, h8, h9, h10, h11, h12, h13, h14, h15, h16, h17⟩ := id tk.ex
    exact ⟨x, dx, fs, rfl, h1, h17 _ (by decide +kernel), rfl, R, m, B, y, x, ch, l1, l2, rfl, rfl, k2, tk, O, W, fun H' x' k' => q _ H' (x2.trans x') k' ⟨_, rfl, rfl⟩⟩
theorem sc_Talk_allows : FnScope ["self", "event"] ["self", "event"] (defScope s_Talk_allows) := ⟨rfl, rfl, rfl, by decide +kernel, rfl, by decide +kernel, by decide +kernel⟩
def SpAl (T : List (Addr × Str)) (K : PySem.W.Frag) (CT CS CR : Addr) : Sp := fun vs H Q _ => vs.length = 2 ∧ ∃ (R : Rs) (m : Nat) (B : Tb) (y : Sd) (x ch l1 l2 : Addr) (v : V) (e : Evt), R.T = T ∧ vs = [.ref x, v] ∧ WE.Ok R m H ∧ TalkAt K R.M CT CS CR B y x ch l1 l2 H ∧ Dq K R.M H v e.d ∧ B.Ok ∧ B.Wf y ∧ B.Can y e ∧ ∀ H', Xt R H H' → WE.Ok R m H' → Q (.bl true) H'
theorem met_allows (D : DefT K CT "allows" "Talk.allows" s_Talk_allows) (Bl : Bl mg) (C : TkC K CT) (M1 : MetT P w K mg base 3 CT "is_free" (SpFr T K CT CS CR)) : MetT P w K mg base 4 CT "allows" (SpAl T K CT CS CR) := by
  refine met_of D sc_Talk_allows (fun _ _ _ _ _ _ us hl => match us, hl with | [_, _], _ => rfl) (fun vs H Q E h => h.1) (fun f cdv A outer s0 H vs Q E hr hh => ?_)
  obtain ⟨_, R, m, B, y, x, ch, l1, l2, v, e, rfl, rfl, ok, tk, hd, O, W, Cn, q⟩ := hh
  refine ⟨_, pss_cons (ps_if (pt_cmpR op_eq (pe_ix (r := rIx K) ix_seq (pv 1) pe_int (fun _ _ => rfl)) pe_str (nomark _)) (pss_one (ps_ret (pe_mm0 M1 C.cl hr (by decide) (pv 0)))) pss_nil)
    (pss_cons (ps_if (pt_cmpR op_eq (pe_ix (r := rIx K) ix_seq (pv 1) pe_int (fun _ _ => rfl)) pe_str (nomark _)) (pss_one (ps_ret (pe_cmpR op_gt (pe_callB call_len_seq (by rfl) Bl.len PySem.boot_len (pa_cons (pe_dget (Room.units1 hr) (pe_fld (pv 0) rfl) (pe_ix (r := rIx K) ix_seq (pv 1) pe_int (fun _ _ => rfl)) (fun _ _ => rfl)) pa_nil)) pe_int (nomark _)))) pss_nil)
    (pss_cons (ps_if (pt_cmpR op_eq (pe_ix (r := rIx K) ix_seq (pv 1) pe_int (fun _ _ => rfl)) pe_str (nomark _)) (pss_one (ps_ret (pe_cmpR op_lt (pe_ix (r := rIx K) ix_seq (pv 1) pe_int (fun _ _ => rfl)) (pe_callB call_len_seq (by rfl) Bl.len PySem.boot_len (pa_cons (pe_dget (Room.units1 hr) (pe_fld (pv 0) rfl) (pe_ix (r := rIx K) ix_seq (pv 1) pe_int (fun _ _ => rfl)) (fun _ _ => rfl)) pa_nil)) (nomark _)))) pss_nil)
    (pss_one (ps_ret pe_bl)))), ?_⟩
  have hm : ∀ {H' : Hp}, Xt R H H' → Dq K R.M H' v e.d := fun x' => hd.mono x'
  have self : ∀ {H' : Hp} {σ : L2.St}, σ[0]? = some (some (.ref x)) → Xt R H H' → Ev R m m (tVar 0) σ H' (tkP K R CT CS CR B y x ch l1 l2) := fun h t => ev_var h ⟨rfl, tk.mono t⟩
  have wd : ∀ {ds : List PyData} {w z : Str} {H' : Hp}, e.d = .tuple (.str w :: ds) → Xt R H H' → EvT R m m (tTest (tOp rEq (tOp (rIx K) (tVar 1) (tC (.int 0))) (tC (.str z)))) [some (.ref x), some v] H' (· = decide (w = z)) := fun {ds w z H'} he x' => by
    have h' := hm x'
    rw [he] at h'
    exact evt_test (ev_strD (ev_at rfl h' 0 rfl rfl))
  have rest : ∀ {ds : List PyData} {w : Str}, e.d = .tuple (.str w :: ds) → decide (w = "hand") = false → decide (w = "pass") = false → decide (w = "lose") = false → ∀ {t1 t2 t3 : TS}, tSeq (tIfS (tTest (tOp rEq (tOp (rIx K) (tVar 1) (tC (.int 0))) (tC (.str "hand")))) t1 tNext) (tSeq (tIfS (tTest (tOp rEq (tOp (rIx K) (tVar 1) (tC (.int 0))) (tC (.str "pass")))) t2 tNext) (tSeq (tIfS (tTest (tOp rEq (tOp (rIx K) (tVar 1) (tC (.int 0))) (tC (.str "lose")))) t3 tNext) (tRet (tC (.bl true))))) { nx := fun _ H' => Q .non H', rt := Q } [some (.ref x), some v] H := fun {ds w} he w1 w2 w3 {t1 t2 t3} =>
    q_ifF ok (wd he (.refl _)) w1 fun H1 x1 k1 => q_ifF k1 (wd he x1) w2 fun H2 x2 k2 => q_ifF k2 (wd he (x1.trans x2)) w3 fun H3 x3 k3 => show tRet (tC (.bl true)) { nx := fun _ H' => Q .non H', rt := Q } [some (.ref x), some v] H3 from s_ret (m := m) (P := vP R (.bl true)) k3 (ev_c fun _ => rfl) fun u H4 x4 k4 e => by
      cases (show u = _ from e)
      exact q H4 (x1.trans (x2.trans (x3.trans x4))) k4
  have passP : ∀ {z : Str}, (z = "forward" ∨ z = "backward") → e.d = .tuple [.str "pass", .str z] → y.chn z ≠ [] → ∀ {t1 t3 : TS} {tz : TS}, tSeq (tIfS (tTest (tOp rEq (tOp (rIx K) (tVar 1) (tC (.int 0))) (tC (.str "hand")))) t1 tNext) (tSeq (tIfS (tTest (tOp rEq (tOp (rIx K) (tVar 1) (tC (.int 0))) (tC (.str "pass")))) (tRet (tOp (rI0 fun i j => .bl (decide (i > j))) (tCB (fun vs H Q => ∃ (a : Addr) (xs : List V), vs = [V.ref a] ∧ (SqL K H a xs ∨ SqT K H a xs) ∧ Q (.int (xs.length : Int)) H) (tCons (tDGet (tFld K (tVar 0) "channels") (tOp (rIx K) (tVar 1) (tC (.int 1)))) tNil)) (tC (.int 0)))) tNext) tz) { nx := fun _ H' => Q .non H', rt := Q } [some (.ref x), some v] H := fun {z} hz he hne {t1 t3 tz} =>
    q_ifF ok (wd he (.refl _)) (by decide +kernel) fun H1 x1 k1 => q_ifT k1 (wd he x1) (by decide +kernel) fun H2 x2 k2 => by
      have x12 := x1.trans x2
      have h' := hm x12
      rw [he] at h'
      refine s_ret (m := m) (P := bP R (· = true)) k2 (ev_I0 (pi := (· = (((y.chn z).length : Nat) : Int))) (qi := (· = 0)) (ev_lenCh C (self rfl x12) hz (ev_at rfl h' 1 rfl rfl)) ev_int fun i j H1 e1 e2 => ⟨_, rfl, ?_⟩) fun u H3 x3 k3 ⟨b, e1, e2⟩ => ?_
      · have e1 : i = (((y.chn z).length : Nat) : Int) := e1
        have e2 : j = 0 := e2
        have := List.length_pos_iff.mpr hne
        exact decide_eq_true (by omega)
      · subst e1 e2
        exact q H3 (x12.trans x3) k3
  have loseP : ∀ {z : Str} {i : Nat}, (z = "forward" ∨ z = "backward") → e.d = .tuple [.str "lose", .str z, .int (i : Int)] → i < (y.chn z).length → ∀ {t1 t2 : TS} {tz : TS}, tSeq (tIfS (tTest (tOp rEq (tOp (rIx K) (tVar 1) (tC (.int 0))) (tC (.str "hand")))) t1 tNext) (tSeq (tIfS (tTest (tOp rEq (tOp (rIx K) (tVar 1) (tC (.int 0))) (tC (.str "pass")))) t2 tNext) (tSeq (tIfS (tTest (tOp rEq (tOp (rIx K) (tVar 1) (tC (.int 0))) (tC (.str "lose")))) (tRet (tOp (rI0 fun i j => .bl (decide (i < j))) (tOp (rIx K) (tVar 1) (tC (.int 2))) (tCB (fun vs H Q => ∃ (a : Addr) (xs : List V), vs = [V.ref a] ∧ (SqL K H a xs ∨ SqT K H a xs) ∧ Q (.int (xs.length : Int)) H) (tCons (tDGet (tFld K (tVar 0) "channels") (tOp (rIx K) (tVar 1) (tC (.int 1)))) tNil)))) tNext) tz)) { nx := fun _ H' => Q .non H', rt := Q } [some (.ref x), some v] H := fun {z i} hz he hlt {t1 t2 tz} =>
    q_ifF ok (wd he (.refl _)) (by decide +kernel) fun H1 x1 k1 => q_ifF k1 (wd he x1) (by decide +kernel) fun H2 x2 k2 => q_ifT k2 (wd he (x1.trans x2)) (by decide +kernel) fun H3 x3 k3 => by
      have x13 := x1.trans (x2.trans x3)
      have h' := hm x13
      rw [he] at h'
      refine s_ret (m := m) (P := bP R (· = true)) k3 (ev_I0 (pi := (· = ((i : Nat) : Int))) (qi := (· = (((y.chn z).length : Nat) : Int))) (ev_intOf (ev_at rfl h' 2 rfl rfl) rfl) (ev_lenCh C (self rfl x13) hz (ev_at rfl h' 1 rfl rfl)) fun i' j H1 e1 e2 => ⟨_, rfl, ?_⟩) fun u H4 x4 k4 ⟨b, e1, e2⟩ => ?_
      · have e1 : i' = ((i : Nat) : Int) := e1
        have e2 : j = (((y.chn z).length : Nat) : Int) := e2
        exact decide_eq_true (by omega)
      · subst e1 e2
        exact q H4 (x13.trans x4) k4
  cases e with
  | hand v' =>
    refine q_ifT ok (wd rfl (.refl _)) (by decide +kernel) fun H1 x1 k1 => ?_
    refine s_ret (m := m) k1 (ev_free (self rfl x1) O W) fun u H2 x2 k2 ⟨b, e1, e2⟩ => ?_
    subst e1
    rw [show b = true from (show b = _ from e2).trans Cn.1]
    exact q H2 (x1.trans x2) k2
  | send => exact rest rfl (by decide +kernel) (by decide +kernel) (by decide +kernel)
  | answer => exact rest rfl (by decide +kernel) (by decide +kernel) (by decide +kernel)
  | passF => exact passP (t3 := tNext) (.inl rfl) rfl Cn
  | passB => exact passP (t3 := tNext) (.inr rfl) rfl Cn
  | loseF i => exact loseP (.inl rfl) rfl Cn
  | loseB i => exact loseP (.inr rfl) rfl Cn
  | crashS => exact rest rfl (by decide +kernel) (by decide +kernel) (by decide +kernel)
  | crashR => exact rest rfl (by decide +kernel) (by decide +kernel) (by decide +kernel)
end
end LW

set_option Elab.async false
set_option linter.all false
set_option maxRecDepth 100000
set_option maxHeartbeats 8000000
namespace LW
open PySem PySem.Spec PyProof.Rows L2 LamX NdefX WE WLam WQ
section
variable {P : Program} {w : World} {K : PySem.W.Frag} {mg : Str → Option Value} {base : Heap} {T : List (Addr × Str)} {CP CT CS CR iT : Addr}
/-! ### step -/
theorem sc_Talk_step : FnScope ["self", "event"] ["self", "event"] (defScope s_Talk_step) := ⟨rfl, rfl, rfl, by decide +kernel, rfl, by decide +kernel, by decide +kernel⟩
def SpSm (T : List (Addr × Str)) (K : PySem.W.Frag) (CT CS CR : Addr) : Sp := fun vs H Q _ => vs.length = 2 ∧ ∃ (R : Rs) (m : Nat) (B : Tb) (y : Sd) (x ch l1 l2 : Addr) (v : V) (e : Evt), R.T = T ∧ vs = [.ref x, v] ∧ WE.Ok R m H ∧ TalkAt K R.M CT CS CR B y x ch l1 l2 H ∧ Dq K R.M H v e.d ∧ B.Ok ∧ B.Wf y ∧ B.Can y e ∧ y.Sm ∧
  ∀ u H', Go R m x ch l1 l2 H H' → TalkAt K R.M CT CS CR B (B.step y e) x ch l1 l2 H' → Dq K R.M H' u (B.gift y e) → Q u H'
structure Mets (P : Program) (w : World) (K : PySem.W.Frag) (mg : Str → Option Value) (base : Heap) (T : List (Addr × Str)) (CT CS CR : Addr) : Prop where
  send : MetT P w K mg base 3 CT "send" (SpMv T K CT CS CR .send)
  answer : MetT P w K mg base 3 CT "answer" (SpMv T K CT CS CR .answer)
  passF : MetT P w K mg base 3 CT "pass_forward" (SpMv T K CT CS CR .passF)
  passB : MetT P w K mg base 3 CT "pass_backward" (SpMv T K CT CS CR .passB)
  crash : MetT P w K mg base 3 CT "crash" (SpCr T K CT CS CR)
theorem met_step (D : DefT K CT "step" "Talk.step" s_Talk_step) (C : TkC K CT) (NS : Prp8 P w K mg base CS "takes" "_takes") (M : Mets P w K mg base T CT CS CR) : MetT P w K mg base 4 CT "step" (SpSm T K CT CS CR) := by
  refine met_of D sc_Talk_step (fun _ _ _ _ _ _ us hl => match us, hl with | [_, _], _ => rfl) (fun vs H Q E h => h.1) (fun f cdv A outer s0 H vs Q E hr hh => ?_)
  obtain ⟨_, R, m, B, y, x, ch, l1, l2, v, e, rfl, rfl, ok, tk, hd, O, W, Cn, sm, q⟩ := hh
  refine ⟨_, pss_cons (ps_if (pt_cmpR (r := rEqD K) (op_eqD hr.units) (pv 1) (pe_tup (pa_cons pe_str (pa_cons pe_str pa_nil))) (nomark _)) (pss_one (ps_ret (pe_mm0 M.passF C.cl hr (by decide) (pv 0)))) pss_nil)
    (pss_cons (ps_if (pt_cmpR (r := rEqD K) (op_eqD hr.units) (pv 1) (pe_tup (pa_cons pe_str (pa_cons pe_str pa_nil))) (nomark _)) (pss_one (ps_expr (pe_mm0 M.passB C.cl hr (by decide) (pv 0))))
      (pss_one (ps_if (pt_cmpR op_eq (pe_ix (r := rIx K) ix_seq (pv 1) pe_int (fun _ _ => rfl)) pe_str (nomark _)) (pss_one (ps_fld (pv 0) (pe_ix (r := rIx K) ix_seq (pe_ix (r := rIx K) ix_seq (pe_prp (pe_fld (pv 0) rfl) NS.cl.cl NS.p7 hr (by decide)) (pe_fld (pv 0) rfl) (fun _ _ => rfl)) (pe_ix (r := rIx K) ix_seq (pv 1) pe_int (fun _ _ => rfl)) (fun _ _ => rfl)) rfl))
      (pss_one (ps_if (pt_cmpR op_eq (pe_ix (r := rIx K) ix_seq (pv 1) pe_int (fun _ _ => rfl)) pe_str (nomark _)) (pss_one (ps_expr (pe_mm0 M.send C.cl hr (by decide) (pv 0))))
      (pss_one (ps_if (pt_cmpR op_eq (pe_ix (r := rIx K) ix_seq (pv 1) pe_int (fun _ _ => rfl)) pe_str (nomark _)) (pss_one (ps_expr (pe_mm0 M.answer C.cl hr (by decide) (pv 0))))
      (pss_one (ps_if (pt_cmpR op_eq (pe_ix (r := rIx K) ix_seq (pv 1) pe_int (fun _ _ => rfl)) pe_str (nomark _)) (pss_one (ps_delL (pe_dget (Room.units1 hr) (pe_fld (pv 0) rfl) (pe_ix (r := rIx K) ix_seq (pv 1) pe_int (fun _ _ => rfl)) (fun _ _ => rfl)) (pe_ix (r := rIx K) ix_seq (pv 1) pe_int (fun _ _ => rfl))))
      (pss_one (ps_expr (pe_mm M.crash C.cl hr (by decide) (pv 0) (pa_cons (pe_ix (r := rIx K) ix_seq (pv 1) pe_int (fun _ _ => rfl)) pa_nil)))))))))))))
    (pss_one (ps_ret pe_non))), ?_⟩
  have hm : ∀ {H' : Hp}, Xt R H H' → Dq K R.M H' v e.d := fun x' => hd.mono x'
  have self : ∀ {H' : Hp} {σ : L2.St}, σ[0]? = some (some (.ref x)) → Xt R H H' → Ev R m m (tVar 0) σ H' (tkP K R CT CS CR B y x ch l1 l2) := fun h t => ev_var h ⟨rfl, tk.mono t⟩
  have wd : ∀ {ds : List PyData} {w z : Str} {H' : Hp}, e.d = .tuple (.str w :: ds) → Xt R H H' → EvT R m m (tTest (tOp rEq (tOp (rIx K) (tVar 1) (tC (.int 0))) (tC (.str z)))) [some (.ref x), some v] H' (· = decide (w = z)) := fun {ds w z H'} he x' => by
    have h' := hm x'
    rw [he] at h'
    exact evt_test (ev_strD (ev_at rfl h' 0 rfl rfl))
  have eq2 : ∀ {a b : Str} {H' : Hp}, PyData.strOk a = true → PyData.strOk b = true → Xt R H H' → EvT R m m (tTest (tOp (rEqD K) (tVar 1) (tTup (tCons (tC (.str a)) (tCons (tC (.str b)) tNil))))) [some (.ref x), some v] H' (· = PyData.eqv e.d (.tuple [.str a, .str b])) := fun {a b H'} ha hb x' =>
    evt_test (ev_eqL (ev_dvar rfl (hm x')) (ev_tupK [.str a, .str b] (eva_d ev_ds (eva_d ev_ds eva_nil)) (by show 2 ≤ 1000; decide)) (lay_evt.mono (by decide)) ((lay_tup (k := 0) fun d hd => by
      simp only [List.mem_cons, List.mem_nil_iff, or_false] at hd
      rcases hd with rfl | rfl
      · exact lay_str ha
      · exact lay_str hb).mono (by decide)))
  have fin : ∀ {H' : Hp} {o : PyData}, Go R m x ch l1 l2 H H' → TalkAt K R.M CT CS CR B (B.step y e) x ch l1 l2 H' → B.gift y e = .none → tRet (tC .non) { nx := fun _ H' => Q .non H', rt := Q } [some (.ref x), some v] H' := fun {H' o} go t hg =>
    s_ret (n := m) (m := m) (P := vP R .non) go.ok (ev_c fun _ => rfl) fun u H4 x4 k4 e => by
      cases (show u = _ from e)
      exact q .non H4 (go.trans (Go.of k4 x4)) (t.mono x4) (hg ▸ .non)
  -- the method of an event without a number
  have two : ∀ {H' : Hp}, isPF e = false → Xt R H H' → WE.Ok R m H' → ∀ {t1 : TS} {tz : TS}, (∀ H2, Xt R H H2 → WE.Ok R m H2 → tz { nx := fun _ H' => Q .non H', rt := Q } [some (.ref x), some v] H2) → tSeq (tIfS (tTest (tOp (rEqD K) (tVar 1) (tTup (tCons (tC (.str "pass")) (tCons (tC (.str "forward")) tNil))))) t1 tNext) tz { nx := fun _ H' => Q .non H', rt := Q } [some (.ref x), some v] H' := fun {H'} hb x' k' {t1 tz} hz =>
    q_ifF k' (eq2 (by decide +kernel) (by decide +kernel) x') (eqv_pf.trans hb) fun H1 x1 k1 => hz H1 (x'.trans x1) k1
  cases e with
  | passF =>
    refine q_ifT ok (eq2 (by decide +kernel) (by decide +kernel) (.refl _)) (eqv_pf.trans rfl) fun H1 x1 k1 => ?_
    show tMeth CT "pass_forward" (SpMv R.T K CT CS CR .passF) [] E0 (tVar 0) tNil _ H1 _
    exact mv0 k1 (tk.mono x1) rfl (by decide +kernel) O W Cn sm fun u H2 go t hu => q u H2 ((Go.of k1 x1).trans go) t hu
  | passB =>
    refine two rfl (.refl _) ok fun H1 x1 k1 => ?_
    refine q_ifT k1 (eq2 (by decide +kernel) (by decide +kernel) x1) (eqv_pb.trans rfl) fun H2 x2 k2 => ?_
    show tMeth CT "pass_backward" (SpMv R.T K CT CS CR .passB) [] E0 (tVar 0) tNil _ H2 _
    exact mv0 k2 (tk.mono (x1.trans x2)) rfl (by decide +kernel) O W Cn sm fun u H3 go t hu => fin (o := .none) ((Go.of k2 (x1.trans x2)).trans go) t rfl
  | hand v' =>
    refine two rfl (.refl _) ok fun H1 x1 k1 => ?_
    refine q_ifF k1 (eq2 (by decide +kernel) (by decide +kernel) x1) (eqv_pb.trans rfl) fun H2 x2 k2 => ?_
    have x12 := x1.trans x2
    refine s_ifT k2 (wd rfl x12) (by decide +kernel) fun H3 x3 k3 => ?_
    have x13 := x12.trans x3
    have hf : isNonD (at_ B.k y.a) = false := by have := Cn.1; unfold Tb.free at this; simpa using this
    obtain ⟨ds, e1, e2, e3, e4⟩ := states_at (take_at (O.kb W.a) hf) Cn.2
    exact s_putA (n := m) (m := m) (a := fi (ats (at_ B.k y.a) v')) C k3 (tk.mono x13) rfl (ev_intOf (ev_nthS (i := v') (ev_nth (i := y.a) (ev_prp (ev_fldS C (self rfl x13)) (by simp [Tb.fS, sndF])) (ev_fldA C (self rfl x13)) (by rw [O.S.kl]; exact W.a)) (ev_intOf (ev_at rfl (hm x13) 1 rfl rfl) rfl) ⟨ds, e1, e2⟩) (below_inv e3).1) fun H4 go4 t4 => fin (o := .none) ((Go.of k3 x13).trans go4) t4 rfl
  | send =>
    refine two rfl (.refl _) ok fun H1 x1 k1 => ?_
    refine q_ifF k1 (eq2 (by decide +kernel) (by decide +kernel) x1) (eqv_pb.trans rfl) fun H2 x2 k2 => ?_
    refine s_ifF k2 (wd rfl (x1.trans x2)) (by decide +kernel) fun H3 x3 k3 => ?_
    refine s_ifT k3 (wd rfl (x1.trans (x2.trans x3))) (by decide +kernel) fun H4 x4 k4 => ?_
    have x14 := x1.trans (x2.trans (x3.trans x4))
    show tMeth CT "send" (SpMv R.T K CT CS CR .send) [] E0 (tVar 0) tNil _ H4 _
    exact mv0 k4 (tk.mono x14) rfl (by decide +kernel) O W Cn sm fun u H3 go t hu => fin (o := .none) ((Go.of k4 x14).trans go) t rfl
  | answer =>
    refine two rfl (.refl _) ok fun H1 x1 k1 => ?_
    refine q_ifF k1 (eq2 (by decide +kernel) (by decide +kernel) x1) (eqv_pb.trans rfl) fun H2 x2 k2 => ?_
    refine s_ifF k2 (wd rfl (x1.trans x2)) (by decide +kernel) fun H3 x3 k3 => ?_
    refine s_ifF k3 (wd rfl (x1.trans (x2.trans x3))) (by decide +kernel) fun H4 x4 k4 => ?_
    refine s_ifT k4 (wd rfl (x1.trans (x2.trans (x3.trans x4)))) (by decide +kernel) fun H5 x5 k5 => ?_
    have x15 := x1.trans (x2.trans (x3.trans (x4.trans x5)))
    show tMeth CT "answer" (SpMv R.T K CT CS CR .answer) [] E0 (tVar 0) tNil _ H5 _
    exact mv0 k5 (tk.mono x15) rfl (by decide +kernel) O W Cn sm fun u H3 go t hu => fin (o := .none) ((Go.of k5 x15).trans go) t rfl
  | loseF i =>
    refine two rfl (.refl _) ok fun H1 x1 k1 => ?_
    refine q_ifF k1 (eq2 (by decide +kernel) (by decide +kernel) x1) (eqv_pb.trans rfl) fun H2 x2 k2 => ?_
    refine s_ifF k2 (wd rfl (x1.trans x2)) (by decide +kernel) fun H3 x3 k3 => ?_
    refine s_ifF k3 (wd rfl (x1.trans (x2.trans x3))) (by decide +kernel) fun H4 x4 k4 => ?_
    refine s_ifF k4 (wd rfl (x1.trans (x2.trans (x3.trans x4)))) (by decide +kernel) fun H5 x5 k5 => ?_
    refine s_ifT k5 (wd rfl (x1.trans (x2.trans (x3.trans (x4.trans x5))))) (by decide +kernel) fun H6 x6 k6 => ?_
    have x16 := x1.trans (x2.trans (x3.trans (x4.trans (x5.trans x6))))
    exact s_chDel (n := m) (k := m) (m := m) (j := i) C k6 (tk.mono x16) (.inl rfl) rfl (ev_at rfl (hm x16) 1 rfl rfl) (ev_intOf (ev_at rfl (hm x16) 2 rfl rfl) rfl) Cn sm.f fun H7 go t => fin (o := .none) ((Go.of k6 x16).trans go) t rfl
  | loseB i =>
    refine two rfl (.refl _) ok fun H1 x1 k1 => ?_
    refine q_ifF k1 (eq2 (by decide +kernel) (by decide +kernel) x1) (eqv_pb.trans rfl) fun H2 x2 k2 => ?_
    refine s_ifF k2 (wd rfl (x1.trans x2)) (by decide +kernel) fun H3 x3 k3 => ?_
    refine s_ifF k3 (wd rfl (x1.trans (x2.trans x3))) (by decide +kernel) fun H4 x4 k4 => ?_
    refine s_ifF k4 (wd rfl (x1.trans (x2.trans (x3.trans x4)))) (by decide +kernel) fun H5 x5 k5 => ?_
    refine s_ifT k5 (wd rfl (x1.trans (x2.trans (x3.trans (x4.trans x5))))) (by decide +kernel) fun H6 x6 k6 => ?_
    have x16 := x1.trans (x2.trans (x3.trans (x4.trans (x5.trans x6))))
    exact s_chDel (n := m) (k := m) (m := m) (j := i) C k6 (tk.mono x16) (.inr rfl) rfl (ev_at rfl (hm x16) 1 rfl rfl) (ev_intOf (ev_at rfl (hm x16) 2 rfl rfl) rfl) Cn sm.g fun H7 go t => fin (o := .none) ((Go.of k6 x16).trans go) t rfl
  | crashS =>
    refine two rfl (.refl _) ok fun H1 x1 k1 => ?_
    refine q_ifF k1 (eq2 (by decide +kernel) (by decide +kernel) x1) (eqv_pb.trans rfl) fun H2 x2 k2 => ?_
    refine s_ifF k2 (wd rfl (x1.trans x2)) (by decide +kernel) fun H3 x3 k3 => ?_
    refine s_ifF k3 (wd rfl (x1.trans (x2.trans x3))) (by decide +kernel) fun H4 x4 k4 => ?_
    refine s_ifF k4 (wd rfl (x1.trans (x2.trans (x3.trans x4)))) (by decide +kernel) fun H5 x5 k5 => ?_
    refine s_ifF k5 (wd rfl (x1.trans (x2.trans (x3.trans (x4.trans x5))))) (by decide +kernel) fun H6 x6 k6 => ?_
    have x16 := x1.trans (x2.trans (x3.trans (x4.trans (x5.trans x6))))
    have t6 := tk.mono x16
    obtain ⟨dx, fs, s, r, fv, gv, h1, h2, h3, h4, h5, h6, h7, h8, h9, h10, h11, h12, h13, h14, h15, h16, h17⟩ := id t6.ex
    refine ⟨_, rfl, x, dx, fs, rfl, h1, h17 _ (by decide +kernel), ?_⟩
    refine (ev_at (n := m) rfl (hm x16) 1 rfl rfl) H6 (.refl _) k6 _ fun u H7 x7 k7 ⟨d, hd', e1⟩ => ?_
    subst e1
    have := dq_str hd'
    subst this
    exact ⟨rfl, R, m, B, y, x, ch, l1, l2, true, rfl, rfl, k7, t6.mono x7, O, W, fun H8 go t => fin (o := .none) ((Go.of k7 (x16.trans x7)).trans go) t rfl⟩
  | crashR =>
    refine two rfl (.refl _) ok fun H1 x1 k1 => ?_
    refine q_ifF k1 (eq2 (by decide +kernel) (by decide +kernel) x1) (eqv_pb.trans rfl) fun H2 x2 k2 => ?_
    refine s_ifF k2 (wd rfl (x1.trans x2)) (by decide +kernel) fun H3 x3 k3 => ?_
    refine s_ifF k3 (wd rfl (x1.trans (x2.trans x3))) (by decide +kernel) fun H4 x4 k4 => ?_
    refine s_ifF k4 (wd rfl (x1.trans (x2.trans (x3.trans x4)))) (by decide +kernel) fun H5 x5 k5 => ?_
    refine s_ifF k5 (wd rfl (x1.trans (x2.trans (x3.trans (x4.trans x5))))) (by decide +kernel) fun H6 x6 k6 => ?_
    have x16 := x1.trans (x2.trans (x3.trans (x4.trans (x5.trans x6))))
    have t6 := tk.mono x16
    obtain ⟨dx, fs, s, r, fv, gv, h1, h2, h3, h4, h5, h6, h7, h8, h9, h10, h11, h12, h13, h14, h15, h16, h17⟩ := id t6.ex
    refine ⟨_, rfl, x, dx, fs, rfl, h1, h17 _ (by decide +kernel), ?_⟩
    refine (ev_at (n := m) rfl (hm x16) 1 rfl rfl) H6 (.refl _) k6 _ fun u H7 x7 k7 ⟨d, hd', e1⟩ => ?_
    subst e1
    have := dq_str hd'
    subst this
    exact ⟨rfl, R, m, B, y, x, ch, l1, l2, false, rfl, rfl, k7, t6.mono x7, O, W, fun H8 go t => fin (o := .none) ((Go.of k7 (x16.trans x7)).trans go) t rfl⟩
end
end LW

set_option Elab.async false
set_option linter.all false
set_option maxRecDepth 100000
set_option maxHeartbeats 8000000
namespace LW
open PySem PySem.Spec PyProof.Rows L2 LamX NdefX WE WLam WQ
section
variable {K : PySem.W.Frag} {R : Rs} {σ : L2.St} {H H0 : Hp} {fs : List (Str × V)} {f : Str} {x C dx : Addr} {m i : Nat} {te : TE} {D : Ends} {tz : TS} {u : V}
/-- self.f = e, a known value -/
theorem q_fldU (I : Ini R m H0 x dx C fs H) (hs : σ[i]? = some (some (.ref x))) (cl : Cls K C) (na : NoAttr K C f) (hl : fs.length < 100) (h : Ev R m m te σ H (vP R u)) (z : ∀ H', Ini R m H0 x dx C (putF f u fs) H' → tz D σ H') : tSeq (sFld K (tVar i) te f) tz D σ H :=
  h H (.refl _) I.ok _ fun v H1 x1 k1 e => by
    cases (show v = u from e)
    have I1 := I.go x1 k1
    exact ⟨_, hs, x, C, dx, fs, rfl, I1.at_, cl, na, by omega, z _ ⟨I1.xt.own I.new, ok_ins k1 I1.at_ I1.nm, upd_same, I.new, I.nm⟩⟩
/-- a field that a property tells -/
theorem ev_prpV {n : Nat} {p dp : Addr} {fp : List (Str × V)} {g : Str} (hs : σ[i]? = some (some (.ref p))) (hp : H p = some (.ins C dp fp)) (hn : ¬ R.M p) (hl : fp.lookup g = some u) : Ev R n n (tProp C (getSp C g) [] E0 (tVar i)) σ H (vP R u) := fun H1 x1 k1 Q q => by
  have h1 := x1.keep p _ hp hn (fun _ z => nomatch z)
  exact ⟨_, hs, p, dp, fp, rfl, h1, p, dp, fp, u, rfl, h1, hl, q u H1 (.refl _) k1 rfl⟩
end
section
variable {P : Program} {w : World} {K : PySem.W.Frag} {mg : Str → Option Value} {base : Heap} {T : List (Addr × Str)} {CP CT CS CR iT : Addr}
/-! ### Talk's maker -/
theorem sc_Talk_init : FnScope ["self", "pair"] ["self", "pair"] (defScope s_Talk_init) := ⟨rfl, rfl, rfl, by decide +kernel, rfl, by decide +kernel, by decide +kernel⟩
def SpTI (T : List (Addr × Str)) (K : PySem.W.Frag) (CP CT CS CR : Addr) : Sp := fun vs H Q _ => vs.length = 2 ∧ ∃ (R : Rs) (m : Nat) (H0 : Hp) (x dx p : Addr) (B : Tb), R.T = T ∧ vs = [.ref x, .ref p] ∧ PairAt K R.M CP CS CR H0 p B.fS B.fR ∧ H = upd (upd H0 dx (.own x)) x (.ins CT dx []) ∧ H0 x = none ∧ H0 dx = none ∧ dx ≠ x ∧ WE.Ok R m H0 ∧
  ∀ ch l1 l2 H', Xt R H0 H' → WE.Ok R m H' → H0 ch = none → H0 l1 = none → H0 l2 = none → TalkAt K R.M CT CS CR B Sd.init x ch l1 l2 H' → Q .non H'
structure MkT (P : Program) (w : World) (K : PySem.W.Frag) (mg : Str → Option Value) (base : Heap) (T : List (Addr × Str)) (CP CT CS CR : Addr) : Prop where
  ex : ∃ (fI : Addr) (fd : FuncData), Mk K CT fI ∧ mg "Talk" = some (.ref CT) ∧ FnOk P w K mg base CX0 4 fI fd ["self", "pair"] (SpTI T K CP CT CS CR) ∧ Binds K fd ["self", "pair"] []
theorem mk_talk (D : DefM K "__init__" "Talk.__init__" s_Talk_init iT) (X : ClsX K mg "Talk" CT iT fiveF) (N : PairC P w K mg base CP) : MkT P w K mg base T CP CT CS CR := by
  obtain ⟨fd, F⟩ := D.ex
  refine ⟨iT, fd, X.mkr, X.mgC, ?_, F.bindsN fun _ _ _ _ _ _ us hl => match us, hl with | [_, _], _ => rfl⟩
  refine F.ok sc_Talk_init (fun vs H Q E h => h.1) fun cdv A outer s0 H vs Q E hr h => ?_
  obtain ⟨_, R, m, H0, x, dx, p, B, rfl, rfl, hP, rfl, hx, hdx, ne, ok, q⟩ := h
  refine ⟨_, PSs.nox (pss_cons (ps_fld (pv 0) (pe_prp (pv 1) N.ci.cl N.p1 hr (by decide)) rfl) (pss_cons (ps_fld (pv 0) (pe_prp (pv 1) N.ci.cl N.p2 hr (by decide)) rfl) (pss_cons (ps_fld (pv 0) pe_int rfl) (pss_cons (ps_fld (pv 0) pe_int rfl)
    (pss_one (ps_fld (pv 0) (pe_disp (trs := [(tC (.str "forward"), tLst tNil), (tC (.str "backward"), tLst tNil)]) (pps_cons pe_str (pe_lst pa_nil) (pps_cons pe_str (pe_lst pa_nil) pps_nil)) rfl rfl (by simp) (by decide)) rfl)))))), ?_⟩
  obtain ⟨dp, fp, s, r, p1, p2, p3, p4, p5, p6, p7⟩ := hP.ex
  have I0 : Ini R m H0 x dx CT [] (upd (upd H0 dx (.own x)) x (.ins CT dx [])) := .start ok hx hdx ne
  have hp : ∀ {H' : Hp}, Xt R H0 H' → H' p = some (.ins CP dp fp) := fun x' => x'.keep p _ p1 hP.nm (fun _ z => nomatch z)
  refine q_fldU I0 rfl X.cl (X.no _ (by simp)) (by show 0 < 100; decide) (ev_prpV rfl (hp I0.xt) hP.nm p2) fun H1 I1 => ?_
  refine q_fldU I1 rfl X.cl (X.no _ (by simp)) (by show 1 < 100; decide) (ev_prpV rfl (hp I1.xt) hP.nm p3) fun H2 I2 => ?_
  refine q_fldU I2 rfl X.cl (X.no _ (by simp)) (by show 2 < 100; decide) (ev_c fun _ => rfl) fun H3 I3 => ?_
  refine q_fldU I3 rfl X.cl (X.no _ (by simp)) (by show 3 < 100; decide) (ev_c fun _ => rfl) fun H4 I4 => ?_
  intro ch hch
  refine ⟨Nat.zero_le _, fun l1 h1 => ⟨Nat.zero_le _, fun l2 h2 => ?_⟩⟩
  have n1 : ch ≠ l1 := fun z => by rw [← z, upd_same] at h1; cases h1
  have h1' : H4 l1 = none := by rw [upd_ne n1.symm] at h1; exact h1
  have n12 : l1 ≠ l2 := fun z => by rw [← z, upd_same] at h2; cases h2
  have n2 : ch ≠ l2 := fun z => by rw [← z, upd_ne n1, upd_same] at h2; cases h2
  have h2' : H4 l2 = none := by rw [upd_ne n12.symm, upd_ne n2.symm] at h2; exact h2
  have ec : upd (upd (upd H4 ch (.dK [])) l1 (.lst [])) l2 (.lst []) ch = some (.dK []) := by rw [upd_ne n2, upd_ne n1, upd_same]
  refine ⟨ec, chK l1 l2, rfl, by show 2 ≤ 15; decide, ?_⟩
  have em : mergeK [] (chK l1 l2) = chK l1 l2 := by rfl
  rw [em]
  have xa : Xt R H4 (upd (upd (upd H4 ch (.dK [])) l1 (.lst [])) l2 (.lst [])) := (Xt.new hch).trans ((Xt.new h1).trans (.new h2))
  have ka : WE.Ok R m (upd (upd (upd H4 ch (.dK [])) l1 (.lst [])) l2 (.lst [])) := ((I4.ok.new hch).new h1).new h2
  have nc : ¬ R.M ch := I4.ok.fresh hch
  have nl1 : ¬ R.M l1 := I4.ok.fresh h1'
  have nl2 : ¬ R.M l2 := I4.ok.fresh h2'
  have xb : Xt R H4 (upd (upd (upd (upd H4 ch (.dK [])) l1 (.lst [])) l2 (.lst [])) ch (.dK (chK l1 l2))) := xa.own hch
  have kb : WE.Ok R m (upd (upd (upd (upd H4 ch (.dK [])) l1 (.lst [])) l2 (.lst [])) ch (.dK (chK l1 l2))) := ok_mut ka ec (.inr (.inr ⟨_, rfl⟩)) nc
  have I5 := I4.go xb kb
  refine ⟨_, rfl, x, CT, dx, _, rfl, I5.at_, X.cl, X.no _ (by simp), by show 4 < 1000; decide, ?_⟩
  have xc : Xt R H0 (upd (upd (upd (upd (upd H4 ch (.dK [])) l1 (.lst [])) l2 (.lst [])) ch (.dK (chK l1 l2))) x (.ins CT dx (putF "channels" (.ref ch) (putF "receiver_state" (.int 0) (putF "sender_state" (.int 0) (putF "receiver_tables" (.ref r) (putF "sender_tables" (.ref s) []))))))) := I5.xt.own hx
  have hmon : ∀ {b : Addr}, H4 b = none → H0 b = none := fun h => I4.xt.mon _ h
  have sx : s ≠ x := fun z => by
    obtain ⟨_, _, g, _⟩ := p6
    rw [z, hx] at g
    cases g
  have rx : r ≠ x := fun z => by
    obtain ⟨_, _, g, _⟩ := p7
    rw [z, hx] at g
    cases g
  have cx : ch ≠ x := fun z => by rw [z, I4.at_] at hch; cases hch
  have lx1 : l1 ≠ x := fun z => by rw [z, I4.at_] at h1'; cases h1'
  have lx2 : l2 ≠ x := fun z => by rw [z, I4.at_] at h2'; cases h2'
  refine q ch l1 l2 _ xc (ok_ins kb I5.at_ I5.nm) (hmon hch) (hmon h1') (hmon h2') ⟨I0.nm, nc, nl1, nl2, n12, rfl, rfl, dx, _, s, r, [], [], upd_same, rfl, rfl, ⟨p4, sx⟩, ⟨p5, rx⟩, p6.mono2 p4 xc, p7.mono2 p5 xc, rfl, rfl, rfl, by rw [upd_ne cx, upd_same], by rw [upd_ne lx1, upd_ne n1.symm, upd_ne n12, upd_same], by rw [upd_ne lx2, upd_ne n2.symm, upd_same], .nil, .nil, by show 5 ≤ 100; decide, fun g hg => ?_⟩
  simp only [fiveF, List.mem_cons, List.mem_nil_iff, or_false, not_or] at hg
  obtain ⟨g1, g2, g3, g4, g5⟩ := hg
  rw [lookup_putF, if_neg g5, lookup_putF, if_neg g4, lookup_putF, if_neg g3, lookup_putF, if_neg g2, lookup_putF, if_neg g1]
  rfl
section
variable {X : Cx} {j : Nat} {e : Expr} {es : List Expr} {t : TA} {p pos : Pos}
theorem pe_mkT (M : MkT X.prog X.w X.K X.mg X.base T CP CT CS CR) (hr : Room j X.A) (hj : 5 ≤ j) (hg : Gl X "Talk") (ha : PA X (e :: es) t) (h4 : starEach (e :: es) X.env = (false, eval e X.env) :: starEach es X.env := by rfl) (h5 : (backTo pos (starEach es X.env)).any (fun x => x.1) = false := by rfl) :
    PE X (.Call (.Name "Talk" p) (e :: es) [] pos) (tMake CT (SpTI T X.K CP CT CS CR) [] E0 t) := by
  obtain ⟨fI, fd, m1, m2, m3, m4⟩ := M.ex
  exact pe_make m1 m3 (hr.mono (by omega)) hg m2 m4 .nil pass0 ha (by decide) h4 h5
end
/-! ### moment_of -/
theorem ev_chD {R : Rs} {B : Tb} {y : Sd} {x ch l1 l2 : Addr} {σ : L2.St} {H : Hp} {n m k : Nat} {te tb : TE} (C : TkC K CT) (h : Ev R n k te σ H (tkP K R CT CS CR B y x ch l1 l2)) {z : Str} (hz : z = "forward" ∨ z = "backward") (hk : Ev R k m tb σ H (dP K R (· = .str z))) : Ev R n m (tDGet (tFld K te "channels") tb) σ H (dP K R (· = .list (y.chn z))) :=
  (ev_ch C h hz hk).imp fun v H' _ ⟨e, tk⟩ => by
    subst e
    obtain ⟨fv, g1, g2, g3, g4⟩ := tk.chl z
    exact ⟨_, .lst (.inl (.inl g1)) g4 g2, rfl⟩
theorem sc_moment_of : FnScope ["talk", "forward", "backward"] ["talk"] (defScope s_moment_of) := ⟨rfl, rfl, rfl, by decide +kernel, rfl, by decide +kernel, by decide +kernel⟩
def SpMo (T : List (Addr × Str)) (K : PySem.W.Frag) (CT CS CR : Addr) : Sp := fun vs H Q _ => vs.length = 1 ∧ ∃ (R : Rs) (m : Nat) (B : Tb) (y : Sd) (x ch l1 l2 : Addr), R.T = T ∧ vs = [.ref x] ∧ WE.Ok R m H ∧ TalkAt K R.M CT CS CR B y x ch l1 l2 H ∧ ∀ v H', Xt R H H' → WE.Ok R m H' → Dq K R.M H' v y.d → Q v H'
theorem ok_moment_of (D : Def1 K mg "moment_of" s_moment_of) (Bl : Bl mg) (C : TkC K CT) : Cal P w K mg base CX0 1 "moment_of" ["talk"] (SpMo T K CT CS CR) := by
  refine cal_of D sc_moment_of (fun _ _ _ _ _ _ us hl => match us, hl with | [_], _ => rfl) (fun vs H Q E h => h.1) (fun f cdv A outer s0 H vs Q E hr hh => ?_)
  obtain ⟨_, R, m, B, y, x, ch, l1, l2, rfl, rfl, ok, tk, q⟩ := hh
  refine ⟨_, pss_cons (ps_set (i := 1) sc_moment_of.nd rfl (.inl rfl) (pe_callTy call_tuple_of (by rfl) Bl.tuple (by decide +kernel) (pa_cons (pe_dget (Room.units1 hr) (pe_fld (pv 0) rfl) pe_str (fun _ _ => rfl)) pa_nil)))
    (pss_cons (ps_set (i := 2) sc_moment_of.nd rfl (.inl rfl) (pe_callTy call_tuple_of (by rfl) Bl.tuple (by decide +kernel) (pa_cons (pe_dget (Room.units1 hr) (pe_fld (pv 0) rfl) pe_str (fun _ _ => rfl)) pa_nil)))
    (pss_one (ps_ret (pe_tup (pa_cons (pe_fld (pv 0) rfl) (pa_cons (pe_fld (pv 0) rfl) (pa_cons (pv 1) (pa_cons (pv 2) pa_nil)))))))), ?_⟩
  have self : ∀ {H' : Hp} {σ : L2.St}, σ[0]? = some (some (.ref x)) → Xt R H H' → Ev R m m (tVar 0) σ H' (tkP K R CT CS CR B y x ch l1 l2) := fun h t => ev_var h ⟨rfl, tk.mono t⟩
  have tp : ∀ {z : Str} {σ : L2.St} {H' : Hp}, (z = "forward" ∨ z = "backward") → σ[0]? = some (some (.ref x)) → Xt R H H' → Ev R m m (tCB (fun xs H Q => ∃ p ys, xs = [.ref p] ∧ ((SqL K H p ys ∧ ∀ l, H l = none → Q (.ref l) (upd H l (.tup ys))) ∨ (SqT K H p ys ∧ Q (.ref p) H))) (tCons (tDGet (tFld K (tVar 0) "channels") (tC (.str z))) tNil)) σ H' (dP K R (· = .tuple (y.chn z))) := fun {z σ H'} hz hs x' =>
    (ev_tupleOf (ev_chD C (self hs x') hz ev_ds) fun d e => ⟨_, .inr e⟩).imp fun v H' _ ⟨d, hd, ds, e, e2⟩ => ⟨d, hd, by
      rcases e with e | e
      · cases e
      · cases e
        exact e2⟩
  refine q_asg (n := m) (m := m) ok (tp (.inl rfl) rfl (.refl _)) fun v1 H1 x1 k1 ⟨d1, hd1, e1⟩ => ?_
  subst e1
  refine q_asg (n := m) (m := m) k1 (tp (.inr rfl) rfl x1) fun v2 H2 x2 k2 ⟨d2, hd2, e2⟩ => ?_
  subst e2
  have x12 := x1.trans x2
  refine s_ret (m := m) k2 (ev_tupK (K := K) [.int y.a, .int y.b, .tuple y.f, .tuple y.g] (eva_d ((ev_ofI (ev_fldA C (self rfl x12))).imp fun v H' _ ⟨d, hd, i, e, e2⟩ => ⟨d, hd, by rw [e, show i = _ from e2]⟩) (eva_d ((ev_ofI (ev_fldB C (self rfl x12))).imp fun v H' _ ⟨d, hd, i, e, e2⟩ => ⟨d, hd, by rw [e, show i = _ from e2]⟩) (eva_d (ev_dvar rfl (hd1.mono x2)) (eva_d (ev_dvar rfl hd2) eva_nil)))) (by show 4 ≤ 1000; decide)) fun v H3 x3 k3 ⟨d, hd, e⟩ => ?_
  subst e
  exact q v H3 (x12.trans x3) k3 hd
/-! ### check_events -/
/-- a run, in a list or in a tuple -/
def RunAt (K : PySem.W.Frag) (M : Addr → Prop) (H : Hp) (v : V) (es : List Evt) : Prop := (∃ a xs, v = .ref a ∧ ¬ M a ∧ H a = some (.lst xs) ∧ DqAll K M H xs (es.map Evt.d)) ∨ Dq K M H v (.tuple (es.map Evt.d))
theorem RunAt.dq {M : Addr → Prop} {H : Hp} {v : V} {es : List Evt} (h : RunAt K M H v es) : ∃ d, Dq K M H v d ∧ (d = .tuple (es.map Evt.d) ∨ d = .list (es.map Evt.d)) := by
  rcases h with ⟨a, xs, rfl, n, h, d⟩ | h
  · exact ⟨_, .lst (.inl (.inl h)) n d, .inr rfl⟩
  · exact ⟨_, h, .inl rfl⟩
theorem RunAt.mono {R : Rs} {H H' : Hp} {v : V} {es : List Evt} (h : RunAt K R.M H v es) (x : Xt R H H') : RunAt K R.M H' v es := by
  rcases h with ⟨a, xs, rfl, n, h, d⟩ | h
  · exact .inl ⟨a, xs, rfl, n, x.keep a _ h n (fun _ z => nomatch z), d.mono x⟩
  · exact .inr (h.mono x)
theorem imm_evts {es : List Evt} : immAll (es.map Evt.d) = true := immAll_mem fun d hd => by
  obtain ⟨e, _, rfl⟩ := List.mem_map.mp hd
  exact imm_evt
theorem RunAt.plus {R : Rs} {S : Addr → Prop} {H : Hp} {v : V} {es : List Evt} (h : RunAt K R.M H v es) (hS : ∀ b, S b → H b = none) : RunAt K (LW.plus R S).M H v es := by
  have t : Tx H H := ⟨fun _ _ z => z, fun _ _ _ z => z⟩
  rcases h with ⟨a, xs, rfl, n, h, d⟩ | h
  · refine .inl ⟨a, xs, rfl, fun z => ?_, h, d.imm t imm_evts⟩
    rcases z with z | z
    · exact n z
    · rw [hS a z] at h
      cases h
  · exact .inr (h.imm t (by unfold imm; exact imm_evts))
theorem sc_check_events : FnScope ["pair", "run", "place", "event"] ["pair", "run"] (defScope s_check_events) := ⟨rfl, rfl, rfl, by decide +kernel, rfl, by decide +kernel, by decide +kernel⟩
def SpCk (T : List (Addr × Str)) (K : PySem.W.Frag) (CP CS CR : Addr) : Sp := fun vs H Q _ => vs.length = 2 ∧ ∃ (R : Rs) (m : Nat) (p : Addr) (v : V) (B : Tb) (es : List Evt), R.T = T ∧ vs = [.ref p, v] ∧ WE.Ok R m H ∧ PairAt K R.M CP CS CR H p B.fS B.fR ∧ RunAt K R.M H v es ∧ (∀ e ∈ es, B.Fit e) ∧ ∀ H', Xt R H H' → WE.Ok R m H' → Q .non H'
theorem ok_check_events (D : Def1 K mg "check_events" s_check_events) (Bl : Bl mg) (C1 : Cal P w K mg base CX0 1 "is_list" ["thing"] (SpIL T K)) (C2 : Cal P w K mg base CX0 3 "is_event" ["pair", "thing"] (SpEv T K CP CS CR)) : Cal P w K mg base CX0 4 "check_events" ["pair", "run"] (SpCk T K CP CS CR) := by
  refine cal_of D sc_check_events (fun _ _ _ _ _ _ us hl => match us, hl with | [_, _], _ => rfl) (fun vs H Q E h => h.1) (fun f cdv A outer s0 H vs Q E hr hh => ?_)
  obtain ⟨_, R, m, p, v, B, es, rfl, rfl, ok, hP, hR, hF, q⟩ := hh
  obtain ⟨d, hd, hs⟩ := hR.dq
  refine ⟨_, pss_cons (ps_if (pt_not (pt_val (pe_cal C1 hr (by decide) (by rfl) pass0 (pa_cons (pv 1) pa_nil)))) (pss_one ps_never) pss_nil)
    (pss_one (ps_for PassesOwn.never rfl (WEnum.pi_enumA (by rfl) Bl.enumerate (pa_cons (pv 1) pa_nil)) (pg_tup rfl (pgs_cons (pg_name (i := 2) sc_check_events.nd rfl (.inl rfl)) (pgs_cons (pg_name (i := 3) sc_check_events.nd rfl (.inl rfl)) pgs_nil)))
      (pss_one (ps_if (pt_not (pt_val (pe_cal C2 hr (by decide) (by rfl) pass0 (pa_cons (pv 0) (pa_cons (pv 3) pa_nil))))) (pss_one ps_never) pss_nil)))), ?_⟩
  refine q_ifF (n := m) (m := m) (b := false) ok (evt_notT (evt_B ((ev_islist rfl hd).imp fun v H' _ ⟨b, e, e2⟩ => ⟨b, e, e2.trans (by rcases hs with rfl | rfl <;> rfl)⟩))) rfl fun H1 x1 k1 => ?_
  show tSeq (tFor (WEnum.iEnumA K (tCons (tVar 1) tNil)) _ _) (fun D σ H => D.nx σ H) { nx := fun _ H' => Q .non H', rt := Q } _ H1
  refine q_enumV (K := K) (H0 := H) (d := d) (ds := es.map Evt.d) k1 x1 rfl hd hs ⟨fun i σ' H' => ∃ y2 y3, σ' = [some (.ref p), some v, y2, y3] ∧ Xt R H H' ∧ WE.Ok R m H', ⟨none, none, rfl, x1, k1⟩, fun i σ' H' h => by obtain ⟨_, _, _, x, _⟩ := h; exact x, fun i d5 v5 σ' H' U hi ⟨y2, y3, eσ, x', k'⟩ hU hv5 => ?_, fun σ' H' ⟨y2, y3, eσ, x', k'⟩ => q H' x' k'⟩
  subst eσ
  obtain ⟨ev, he, rfl⟩ := evs_at hi
  have xn : Xt R H' (upd H' U (.tup [.int (i : Nat), v5])) := .new hU
  have kn := k'.new (o := .tup [.int (i : Nat), v5]) hU
  refine ⟨U, _, rfl, .inl (.inl upd_same), rfl, _, _, rfl, _, _, rfl, rfl, ?_⟩
  refine s_ifF (n := m) (m := m) (b := false) kn (evt_notT (evt_B (ev_call (Ps := [pP K R CP CS CR B.fS B.fR, dP K R (· = ev.d)]) (eva_cons (ev_var rfl ⟨p, rfl, hP.mono (x'.trans xn)⟩) (eva_cons (ev_dvar rfl (hv5.mono xn)) eva_nil)) fun vs H3 x3 k3 r3 Q3 q3 => ?_))) rfl fun H3 x3 k3 => ⟨_, _, rfl, x'.trans (xn.trans x3), k3⟩
  obtain ⟨_, _, rfl, ⟨p', rfl, hp'⟩, _, _, rfl, ⟨d', hd', rfl⟩, rfl⟩ := r3
  exact ⟨rfl, R, m, p', _, B, ev, rfl, rfl, k3, hp', hd', hF ev (List.mem_of_getElem? he), fun H4 x4 k4 => q3 _ H4 x4 k4 ⟨true, rfl, rfl⟩⟩
end
end LW

set_option Elab.async false
set_option linter.all false
set_option maxRecDepth 100000
set_option maxHeartbeats 8000000
namespace LW
open PySem PySem.Spec PyProof.Rows L2 LamX NdefX WE WLam WQ
section
variable {K : PySem.W.Frag} {R : Rs} {CT CS CR : Addr} {B : Tb} {y : Sd} {x ch l1 l2 p : Addr} {H H' H0 : Hp} {m : Nat} {xs ys : List V}
/-- another list is changed -/
theorem TalkAt.other (h : TalkAt K R.M CT CS CR B y x ch l1 l2 H) (hp : H p = some (.lst xs)) (n1 : p ≠ l1) (n2 : p ≠ l2) : TalkAt K R.M CT CS CR B y x ch l1 l2 (upd H p (.lst ys)) := by
  obtain ⟨dx, fs, s, r, fv, gv, h1, h2, h3, h4, h5, h6, h7, h8, h9, h10, h11, h12, h13, h14, h15, h16, h17⟩ := h.ex
  have mt : WE.Mut (.lst xs) := .inl ⟨_, rfl⟩
  have t : Tx H (upd H p (.lst ys)) := tx_mut hp mt
  have ns : s ≠ p := fun z => by
    obtain ⟨_, _, g, _⟩ := h6
    rw [z, hp] at g
    cases g
  have nr : r ≠ p := fun z => by
    obtain ⟨_, _, g, _⟩ := h7
    rw [z, hp] at g
    cases g
  exact ⟨h.nx, h.nc, h.n1, h.n2, h.ne, h.if_, h.ig, dx, fs, s, r, fv, gv, by rw [upd_ne (ne_of h1 hp (fun z => nomatch z))]; exact h1, h2, h3, h4, h5, ins_upd h6 hp mt ns, ins_upd h7 hp mt nr, h8, h9, h10, by rw [upd_ne (ne_of h11 hp (fun z => nomatch z))]; exact h11, by rw [upd_ne n1.symm]; exact h12, by rw [upd_ne n2.symm]; exact h13, h14.imm t h.if_, h15.imm t h.ig, h16, h17⟩
/-- all of the talk is there -/
theorem TalkAt.some (h : TalkAt K R.M CT CS CR B y x ch l1 l2 H) : ∀ b, tkS x ch l1 l2 b → ∃ o, H b = some o ∧ WE.Mut o := by
  obtain ⟨dx, fs, s, r, fv, gv, h1, h2, h3, h4, h5, h6, h7, h8, h9, h10, h11, h12, h13, h14, h15, h16, h17⟩ := h.ex
  rintro b (rfl | rfl | rfl | rfl)
  · exact ⟨_, h1, .inr (.inl ⟨_, _, _, rfl⟩)⟩
  · exact ⟨_, h11, .inr (.inr ⟨_, rfl⟩)⟩
  · exact ⟨_, h12, .inl ⟨_, rfl⟩⟩
  · exact ⟨_, h13, .inl ⟨_, rfl⟩⟩
end
section
variable {P : Program} {w : World} {K : PySem.W.Frag} {mg : Str → Option Value} {base : Heap} {T : List (Addr × Str)} {CP CT CS CR : Addr}
/-- the talk has come so far: D the list of what was told -/
structure Far (K : PySem.W.Frag) (R : Rs) (m : Nat) (CT CS CR : Addr) (B : Tb) (y : Sd) (os : List PyData) (x ch l1 l2 Da : Addr) (H0 H : Hp) : Prop where
  ok : WE.Ok R m H
  tk : TalkAt K R.M CT CS CR B y x ch l1 l2 H
  A : AccAt K (plus R (tkS x ch l1 l2)) H0 Da os H
theorem Far.nd {R : Rs} {m : Nat} {B : Tb} {y : Sd} {os : List PyData} {x ch l1 l2 Da : Addr} {H0 H : Hp} (F : Far K R m CT CS CR B y os x ch l1 l2 Da H0 H) : ¬ R.M Da ∧ Da ≠ l1 ∧ Da ≠ l2 := ⟨fun z => F.A.nm (.inl z), fun z => F.A.nm (.inr (.inr (.inr (.inl z)))), fun z => F.A.nm (.inr (.inr (.inr (.inr z))))⟩
theorem Far.go {R : Rs} {m : Nat} {B : Tb} {y : Sd} {os : List PyData} {x ch l1 l2 Da : Addr} {H0 H H' : Hp} (F : Far K R m CT CS CR B y os x ch l1 l2 Da H0 H) (xt : Xt R H H') (kk : WE.Ok R m H') : Far K R m CT CS CR B y os x ch l1 l2 Da H0 H' := ⟨kk, F.tk.mono xt, F.A.go xt.plus⟩
/-- outcomes.append(talk.step(event)) -/
theorem s_step {R : Rs} {m : Nat} {B : Tb} {y : Sd} {os : List PyData} {x ch l1 l2 Da : Addr} {H0 H : Hp} {σ : L2.St} {i j l : Nat} {v : V} {e : Evt} {D : Ends} (F : Far K R m CT CS CR B y os x ch l1 l2 Da H0 H) (hi : σ[i]? = some (some (.ref Da))) (hj : σ[j]? = some (some (.ref x))) (hl : σ[l]? = some (some v)) (hv : Dq K R.M H v e.d) (O : B.Ok) (W : B.Wf y) (C : B.Can y e) (sm : y.Sm) (ho : os.length ≤ 1000)
    (q : ∀ H', Far K R m CT CS CR B (B.step y e) (os ++ [B.gift y e]) x ch l1 l2 Da H0 H' → D.nx σ H') : tDrop (tBM K "list" rAppend (tVar i) (tCons (tMeth CT "step" (SpSm R.T K CT CS CR) [] E0 (tVar j) (tCons (tVar l) tNil)) tNil)) D σ H := by
  obtain ⟨acc, g1, g2⟩ := F.A.ex
  obtain ⟨nD, nl1, nl2⟩ := F.nd
  obtain ⟨dx, fs, s, r, fv, gv, h1, h2, h3, h4, h5, h6, h7, h8, h9, h10, h11, h12, h13, h14, h15, h16, h17⟩ := id F.tk.ex
  refine ⟨_, hi, .inl ⟨rfl, _, .inl (.inl g1)⟩, ?_⟩
  refine ⟨_, hj, x, dx, fs, rfl, h1, h17 _ (by decide +kernel), ?_⟩
  refine ⟨_, hl, ?_⟩
  refine ⟨rfl, R, m, B, y, x, ch, l1, l2, v, e, rfl, rfl, F.ok, F.tk, hv, O, W, C, sm, fun u H2 go t2 hu => ?_⟩
  have A2 := F.A.go go.xt
  obtain ⟨acc2, k1, k2⟩ := A2.ex
  have ig : imm (B.gift y e) = true := by
    cases e with
    | passF =>
      obtain ⟨_, _, _, h2, _⟩ := gifts_at (O.gb' W.b) (below_inv (W.f _ (head_of C))).2
      exact imm_nonBelow h2
    | _ => rfl
  have t : Tx H2 (upd H2 Da (.lst (acc2 ++ [u]))) := .lst k1
  have hlen := k2.length
  refine ⟨Da, acc2, u, rfl, rfl, k1, Nat.lt_of_le_of_lt (by omega) (show 1000 < sizeLine by decide), ?_⟩
  refine q _ ⟨ok_lst go.ok k1 nD, t2.other k1 nl1 nl2, A2.new, A2.xt.own A2.new, A2.nm, immAll_mem fun d hd => ?_, acc2 ++ [u], upd_same, (k2.imm t A2.im).append (.cons (hu.imm t ig) .nil)⟩
  rcases List.mem_append.mp hd with z | z
  · exact immAll_get A2.im d z
  · rw [List.mem_singleton.mp z]
    exact ig
theorem evt_allows {R : Rs} {m : Nat} {B : Tb} {y : Sd} {x ch l1 l2 : Addr} {H : Hp} {σ : L2.St} {j l : Nat} {v : V} {e : Evt} (tk : TalkAt K R.M CT CS CR B y x ch l1 l2 H) (hj : σ[j]? = some (some (.ref x))) (hl : σ[l]? = some (some v)) (hv : Dq K R.M H v e.d) (O : B.Ok) (W : B.Wf y) (C : B.Can y e) :
    EvT R m m (tB (tMeth CT "allows" (SpAl R.T K CT CS CR) [] E0 (tVar j) (tCons (tVar l) tNil))) σ H (· = true) := evt_B fun H1 x1 k1 Q q => by
  have t1 := tk.mono x1
  obtain ⟨dx, fs, s, r, fv, gv, h1, h2, h3, h4, h5, h6, h7, h8, h9, h10, h11, h12, h13, h14, h15, h16, h17⟩ := id t1.ex
  refine ⟨_, hj, x, dx, fs, rfl, h1, h17 _ (by decide +kernel), ?_⟩
  refine ⟨_, hl, ?_⟩
  exact ⟨rfl, R, m, B, y, x, ch, l1, l2, v, e, rfl, rfl, k1, t1, hv.mono x1, O, W, C, fun H2 x2 k2 => q _ H2 x2 k2 ⟨true, rfl, rfl⟩⟩
/-! ### walk -/
theorem sc_walk : FnScope ["pair", "run", "talk", "outcomes", "place", "event"] ["pair", "run"] (defScope s_walk) := ⟨rfl, rfl, rfl, by decide +kernel, rfl, by decide +kernel, by decide +kernel⟩
def SpW (T : List (Addr × Str)) (K : PySem.W.Frag) (CP CT CS CR : Addr) : Sp := fun vs H Q _ => vs.length = 2 ∧ ∃ (R : Rs) (m : Nat) (p : Addr) (v : V) (B : Tb) (es : List Evt), R.T = T ∧ vs = [.ref p, v] ∧ WE.Ok R m H ∧ PairAt K R.M CP CS CR H p B.fS B.fR ∧ RunAt K R.M H v es ∧ B.Ok ∧ B.Run Sd.init es ∧ es.length ≤ 500 ∧
  ∀ q x ch l1 l2 Da H', Xt R H H' → WE.Ok R m H' → TalkAt K R.M CT CS CR B (B.walk Sd.init es) x ch l1 l2 H' → (lP K R (· = B.outs Sd.init es)).r (.ref Da) H' → H' q = some (.tup [.ref x, .ref Da]) → Q (.ref q) H'
theorem Tb.run_fit {B : Tb} : ∀ {es : List Evt} {x : Sd}, B.Run x es → ∀ e ∈ es, B.Fit e
  | [], _, _, _, h => by cases h
  | a :: es, x, ⟨h1, h2⟩, e, h => by
    rcases List.mem_cons.mp h with z | z
    · rw [z]
      exact B.fit_of h1
    · exact Tb.run_fit (es := es) h2 e z
theorem ok_walk (D : Def1 K mg "walk" s_walk) (Bl : Bl mg) (C : TkC K CT) (C0 : Cal P w K mg base CX0 1 "check_pair" ["pair"] (SpCkP T K CP CS CR)) (C1 : Cal P w K mg base CX0 4 "check_events" ["pair", "run"] (SpCk T K CP CS CR)) (M : MkT P w K mg base T CP CT CS CR) (M1 : MetT P w K mg base 4 CT "allows" (SpAl T K CT CS CR)) (M2 : MetT P w K mg base 4 CT "step" (SpSm T K CT CS CR)) : Cal P w K mg base CX0 6 "walk" ["pair", "run"] (SpW T K CP CT CS CR) := by
  refine cal_of D sc_walk (fun _ _ _ _ _ _ us hl => match us, hl with | [_, _], _ => rfl) (fun vs H Q E h => h.1) (fun f cdv A outer s0 H vs Q E hr hh => ?_)
  obtain ⟨_, R, m, p, v, B, es, rfl, rfl, ok, hP, hR, O, hrun, hz, q⟩ := hh
  refine ⟨_, pss_cons (ps_expr (pe_cal C0 hr (by decide) (by rfl) pass0 (pa_cons (pv 0) pa_nil)))
    (pss_cons (ps_expr (pe_cal C1 hr (by decide) (by rfl) pass0 (pa_cons (pv 0) (pa_cons (pv 1) pa_nil))))
    (pss_cons (ps_set (i := 2) sc_walk.nd rfl (.inl rfl) (pe_mkT M hr (by decide) (by rfl) (pa_cons (pv 0) pa_nil)))
    (pss_cons (ps_set (i := 3) sc_walk.nd rfl (.inl rfl) (pe_lst pa_nil))
    (pss_cons (ps_for PassesOwn.never rfl (WEnum.pi_enumA (by rfl) Bl.enumerate (pa_cons (pv 1) pa_nil)) (pg_tup rfl (pgs_cons (pg_name (i := 4) sc_walk.nd rfl (.inl rfl)) (pgs_cons (pg_name (i := 5) sc_walk.nd rfl (.inl rfl)) pgs_nil)))
      (pss_cons (ps_if (pt_not (pt_val (pe_mm M1 C.cl hr (by decide) (pv 2) (pa_cons (pv 5) pa_nil)))) (pss_one ps_never) pss_nil)
      (pss_one (ps_expr (pe_bm PySem.F.plainAttrs_list PySem.F.slot_list_append PySem.F.type_list_append mt_append (pv 3) (pa_cons (pe_mm M2 C.cl hr (by decide) (pv 2) (pa_cons (pv 5) pa_nil)) pa_nil))))))
    (pss_one (ps_ret (pe_tup (pa_cons (pv 2) (pa_cons (pv 3) pa_nil))))))))), ?_⟩
  refine q_drop (m := m) ok (ev_ckP (ev_var (P := pP K R CP CS CR B.fS B.fR) rfl ⟨p, rfl, hP⟩)) fun _ H1 x1 k1 _ => ?_
  have hP1 := hP.mono x1
  have hR1 := hR.mono x1
  refine q_drop (n := m) (m := m) (P := vP R .non) k1 (fun H1' x' k' Q' q' => ⟨_, rfl, _, rfl, ?_⟩) fun _ H2 x2 k2 _ => ?_
  · exact ⟨rfl, R, m, p, v, B, es, rfl, rfl, k', hP1.mono x', hR1.mono x', B.run_fit hrun, fun H' x'' k'' => q' _ H' x'' k'' rfl⟩
  have hP2 := hP1.mono x2
  have hR2 := hR1.mono x2
  refine ⟨_, rfl, ?_⟩
  intro x dx hx hdx ne
  refine ⟨rfl, R, m, H2, x, dx, p, B, rfl, rfl, hP2, rfl, hx, hdx, ne, k2, fun ch l1 l2 H3 x3 k3 nch nl1 nl2 tk3 => ⟨rfl, ?_⟩⟩
  have hS : ∀ b, tkS x ch l1 l2 b → H2 b = none := by
    rintro b (rfl | rfl | rfl | rfl) <;> assumption
  refine q_acc0 (K := K) k3 fun Da H4 k4 A4 => ?_
  have F4 : Far K R m CT CS CR B Sd.init [] x ch l1 l2 Da H3 H4 := by
    refine ⟨k4, tk3.mono A4.xt, A4.new, A4.xt.plus, fun z => ?_, rfl, ?_⟩
    · rcases z with z | z
      · exact A4.nm z
      · obtain ⟨o, ho, _⟩ := tk3.some _ z
        rw [A4.new] at ho
        cases ho
    · obtain ⟨acc, g1, g2⟩ := A4.ex
      cases g2
      exact ⟨[], g1, .nil⟩
  have hR3 : RunAt K (plus R (tkS x ch l1 l2)).M H3 v es := (hR2.plus hS).mono (R := plus R (tkS x ch l1 l2)) x3.plus
  obtain ⟨d, hd, hs⟩ := hR3.dq
  have kp : WE.Ok (plus R (tkS x ch l1 l2)) m H4 := ⟨k4.tab, fun b hb => by
    rcases hb with hb | hb
    · exact k4.ml b hb
    · exact F4.tk.some b hb, k4.g⟩
  refine q_enumV (K := K) (R := plus R (tkS x ch l1 l2)) (H0 := H3) (d := d) (ds := es.map Evt.d) kp F4.A.xt rfl hd hs ⟨fun i σ' H' => ∃ y4 y5, σ' = [some (.ref p), some v, some (.ref x), some (.ref Da), y4, y5] ∧ Far K R m CT CS CR B (B.walk Sd.init (es.take i)) (B.outs Sd.init (es.take i)) x ch l1 l2 Da H3 H',
    ⟨none, none, rfl, F4⟩, fun i σ' H' h => by obtain ⟨_, _, _, F⟩ := h; exact F.A.xt, fun i d5 v5 σ' H' U hi ⟨y4, y5, eσ, F⟩ hU hv5 => ?_, fun σ' H' ⟨y4, y5, eσ, F⟩ => ?_⟩
  · subst eσ
    obtain ⟨ev, he, rfl⟩ := evs_at hi
    have xn : Xt R H' (upd H' U (.tup [.int (i : Nat), v5])) := .new hU
    have kn := F.ok.new (o := .tup [.int (i : Nat), v5]) hU
    have Fn := F.go xn kn
    have hv5' : Dq K R.M (upd H' U (.tup [.int (i : Nat), v5])) v5 ev.d := hv5.imm xn.tx imm_evt
    refine ⟨U, _, rfl, .inl (.inl upd_same), rfl, _, _, rfl, _, _, rfl, rfl, ?_⟩
    have Wi := O.walk O.init (B.run_take i hrun)
    have Ci := B.run_at hrun he
    have smi : (B.walk Sd.init (es.take i)).Sm := sm_walk (by rw [List.length_take]; omega)
    refine q_ifF (n := m) (m := m) (b := false) kn (evt_notT (evt_allows Fn.tk rfl rfl hv5' O Wi Ci)) rfl fun H5 x5 k5 => ?_
    have et : es.take (i + 1) = es.take i ++ [ev] := take_snoc he
    refine s_step (Fn.go x5 k5) rfl rfl rfl (hv5'.mono x5) O Wi Ci smi (by rw [B.outs_len, List.length_take]; omega) fun H6 F6 => ⟨_, _, rfl, ?_⟩
    rw [et, B.walk_snoc, B.outs_snoc]
    exact F6
  · subst eσ
    rw [List.length_map, List.take_length] at F
    obtain ⟨acc, g1, g2⟩ := F.A.ex
    obtain ⟨nD, _, _⟩ := F.nd
    refine ⟨_, rfl, _, rfl, by show 2 ≤ sizeLine; decide, fun t ht => ?_⟩
    have xn : Xt R H' (upd H' t (.tup [.ref x, .ref Da])) := .new ht
    have x0 : Xt R H H' := (x1.trans x2).trans (x3.ofPlus hS F.A.xt)
    exact q t x ch l1 l2 Da _ (x0.trans xn) (F.ok.new ht) (F.tk.mono xn) ⟨Da, acc, _, rfl, nD, xn.keep Da _ g1 nD (fun _ z => nomatch z), (g2.imm (M' := R.M) ⟨fun _ _ z => z, fun _ _ _ z => z⟩ F.A.im).mono xn, rfl⟩ upd_same
end
end LW

set_option Elab.async false
set_option linter.all false
set_option maxRecDepth 100000
set_option maxHeartbeats 8000000
namespace LW
open PySem PySem.Spec PyProof.Rows L2 LamX NdefX WE WLam WQ
section
variable {P : Program} {w : World} {K : PySem.W.Frag} {mg : Str → Option Value} {base : Heap} {T : List (Addr × Str)} {CP CT CS CR : Addr}
/-- what walk tells -/
def wkP (K : PySem.W.Frag) (R : Rs) (CT CS CR : Addr) (B : Tb) (y : Sd) (os : List PyData) : Rp R := ⟨fun v H => ∃ q x ch l1 l2 Da, v = .ref q ∧ H q = some (.tup [.ref x, .ref Da]) ∧ TalkAt K R.M CT CS CR B y x ch l1 l2 H ∧ (lP K R (· = os)).r (.ref Da) H, fun _ _ _ xt ⟨q, x, ch, l1, l2, Da, e, h, t, l⟩ => ⟨q, x, ch, l1, l2, Da, e, xt.tup q _ h, t.mono xt, (lP K R (· = os)).mono _ _ _ xt l⟩⟩
theorem ev_walk {R : Rs} {B : Tb} {es : List Evt} {σ : L2.St} {H : Hp} {m i j : Nat} {p : Addr} {v : V} (hi : σ[i]? = some (some (.ref p))) (hj : σ[j]? = some (some v)) (hP : PairAt K R.M CP CS CR H p B.fS B.fR) (hR : RunAt K R.M H v es) (O : B.Ok) (hr : B.Run Sd.init es) (hz : es.length ≤ 500) :
    Ev R m m (tCall (SpW R.T K CP CT CS CR) [] E0 (tCons (tVar i) (tCons (tVar j) tNil))) σ H (wkP K R CT CS CR B (B.walk Sd.init es) (B.outs Sd.init es)) := fun H1 x1 k1 Q q =>
  ⟨_, hi, _, hj, rfl, R, m, p, v, B, es, rfl, rfl, k1, hP.mono x1, hR.mono x1, O, hr, hz, fun t x ch l1 l2 Da H' x' k' tk l h => q _ H' x' k' ⟨t, x, ch, l1, l2, Da, rfl, h, tk, l⟩⟩
/-! ### walked -/
theorem sc_walked : FnScope ["pair", "run", "talk", "_"] ["pair", "run"] (defScope s_walked) := ⟨rfl, rfl, rfl, by decide +kernel, rfl, by decide +kernel, by decide +kernel⟩
/-- what a run is asked of -/
structure Asked (K : PySem.W.Frag) (R : Rs) (m : Nat) (CP CS CR : Addr) (B : Tb) (es : List Evt) (p : Addr) (v : V) (H : Hp) : Prop where
  ok : WE.Ok R m H
  pr : PairAt K R.M CP CS CR H p B.fS B.fR
  rn : RunAt K R.M H v es
  O : B.Ok
  run : B.Run Sd.init es
  z : es.length ≤ 500
def SpWd (T : List (Addr × Str)) (K : PySem.W.Frag) (CP CS CR : Addr) : Sp := fun vs H Q _ => vs.length = 2 ∧ ∃ (R : Rs) (m : Nat) (p : Addr) (v : V) (B : Tb) (es : List Evt), R.T = T ∧ vs = [.ref p, v] ∧ Asked K R m CP CS CR B es p v H ∧ ∀ u H', Xt R H H' → WE.Ok R m H' → Dq K R.M H' u (B.walk Sd.init es).d → Q u H'
theorem okF_walked (D : Def1 K mg "walked" s_walked) (C1 : Cal P w K mg base CX0 6 "walk" ["pair", "run"] (SpW T K CP CT CS CR)) (C2 : Cal P w K mg base CX0 1 "moment_of" ["talk"] (SpMo T K CT CS CR)) : CalF P w K mg base CX0 7 "walked" s_walked ["pair", "run"] (SpWd T K CP CS CR) := by
  refine calF_of D sc_walked (fun vs H Q E h => h.1) (fun f cdv A outer s0 H vs Q E hr hh => ?_)
  obtain ⟨_, R, m, p, v, B, es, rfl, rfl, Ak, q⟩ := hh
  refine ⟨_, pss_cons (ps_asg (pe_cal C1 hr (by decide) (by rfl) pass0 (pa_cons (pv 0) (pa_cons (pv 1) pa_nil))) (pg_tup rfl (pgs_cons (pg_name (i := 2) sc_walked.nd rfl (.inl rfl)) (pgs_cons (pg_name (i := 3) sc_walked.nd rfl (.inl rfl)) pgs_nil))))
    (pss_one (ps_ret (pe_cal C2 hr (by decide) (by rfl) pass0 (pa_cons (pv 2) pa_nil)))), ?_⟩
  refine q_asgT (m := m) Ak.ok (ev_walk rfl rfl Ak.pr Ak.rn Ak.O Ak.run Ak.z) fun v1 H1 x1 k1 ⟨t, x, ch, l1, l2, Da, e, ht, tk, l⟩ => ?_
  subst e
  refine ⟨t, _, rfl, .inl (.inl ht), rfl, _, _, rfl, _, _, rfl, rfl, ?_⟩
  refine ⟨_, rfl, rfl, R, m, B, _, x, ch, l1, l2, rfl, rfl, k1, tk, fun u H' x' k' hd => q u H' (x1.trans x') k' hd⟩
/-! ### delivered -/
theorem sc_delivered : FnScope ["pair", "run", "_", "outcomes", "value"] ["pair", "run"] (defScope s_delivered) := ⟨rfl, rfl, rfl, by decide +kernel, rfl, by decide +kernel, by decide +kernel⟩
def SpDl (T : List (Addr × Str)) (K : PySem.W.Frag) (CP CS CR : Addr) : Sp := fun vs H Q _ => vs.length = 2 ∧ ∃ (R : Rs) (m : Nat) (p : Addr) (v : V) (B : Tb) (es : List Evt), R.T = T ∧ vs = [.ref p, v] ∧ Asked K R m CP CS CR B es p v H ∧ ∀ D H', WE.Ok R m H' → AccAt K R H D (vals (B.outs Sd.init es)) H' → Q (.ref D) H'
theorem Tb.Ok.gift_imm {B : Tb} (O : B.Ok) {y : Sd} {e : Evt} (W : B.Wf y) (C : B.Can y e) : imm (B.gift y e) = true := by
  cases e with
  | passF =>
    obtain ⟨_, _, _, h2, _⟩ := gifts_at (O.gb' W.b) (below_inv (W.f _ (head_of C))).2
    exact imm_nonBelow h2
  | _ => rfl
theorem Tb.Ok.outs_imm {B : Tb} (O : B.Ok) : ∀ {es : List Evt} {y : Sd}, B.Wf y → B.Run y es → ∀ d ∈ B.outs y es, imm d = true
  | [], _, _, _, _, h => by cases h
  | a :: es, y, W, ⟨h1, h2⟩, d, h => by
    rcases List.mem_cons.mp h with z | z
    · rw [z]
      exact O.gift_imm W h1
    · exact Tb.Ok.outs_imm O (es := es) (O.step W h1) h2 d z
theorem lP_dq {R : Rs} {v : V} {H : Hp} {ds : List PyData} (h : (lP K R (· = ds)).r v H) : Dq K R.M H v (.list ds) := by
  obtain ⟨a, xs, es, e, n1, h, d, e2⟩ := h
  subst e
  rw [← show es = _ from e2]
  exact .lst (.inl (.inl h)) n1 d
theorem okF_delivered (D : Def1 K mg "delivered" s_delivered) (C1 : Cal P w K mg base CX0 6 "walk" ["pair", "run"] (SpW T K CP CT CS CR)) : CalF P w K mg base CX0 7 "delivered" s_delivered ["pair", "run"] (SpDl T K CP CS CR) := by
  refine calF_of D sc_delivered (fun vs H Q E h => h.1) (fun f cdv A outer s0 H vs Q E hr hh => ?_)
  obtain ⟨_, R, m, p, v, B, es, rfl, rfl, Ak, q⟩ := hh
  refine ⟨_, pss_cons (ps_asg (pe_cal C1 hr (by decide) (by rfl) pass0 (pa_cons (pv 0) (pa_cons (pv 1) pa_nil))) (pg_tup rfl (pgs_cons (pg_name (i := 2) sc_delivered.nd rfl (.inl rfl)) (pgs_cons (pg_name (i := 3) sc_delivered.nd rfl (.inl rfl)) pgs_nil))))
    (pss_one (ps_ret (pe_lc (own := [("value", 4)]) (g := gName 4) (tt := tTest (tOp (fun x y H Q => y = .non ∧ Q (.bl (!decide (x = .non))) H) (tVar 4) (tC .non))) (te := tVar 4) rfl sc_delivered.nd (pi_list (pv 3)) (blkOk_by (N := ["pair", "run", "_", "outcomes", "value"]) (sc := defScope s_delivered) (by decide +kernel))
      (fun _ _ _ _ _ => pg_name (i := 4) sc_delivered.nd rfl (Or.inl rfl)) (fun _ _ _ _ _ => pts_one (pt_cmpR op_notN (pv 4) pe_non (nomark _))) (fun _ _ _ _ _ => pv 4)))), ?_⟩
  refine q_asgT (m := m) Ak.ok (ev_walk rfl rfl Ak.pr Ak.rn Ak.O Ak.run Ak.z) fun v1 H1 x1 k1 ⟨t, x, ch, l1, l2, Da, e, ht, tk, l⟩ => ?_
  subst e
  refine ⟨t, _, rfl, .inl (.inl ht), rfl, _, _, rfl, _, _, rfl, rfl, ?_⟩
  refine s_ret (m := m) (P := aP K R H1 (vals (B.outs Sd.init es))) k1 ((ev_lcL2A (l := B.outs Sd.init es) (f := id) (c := fun o => !isNonD o) (ev_dvar rfl (lP_dq l)) (by rw [B.outs_len]; have := Ak.z; omega) (fun d hd _ => Ak.O.outs_imm Ak.O.init Ak.run d hd) fun d v H2 hd x2 hv => ⟨[some (.ref p), some _, some (.ref x), some (.ref Da), some v], fun Q2 h => h, rfl, evt_nn rfl hv, fun _ => ev_dvar rfl hv⟩).imp fun v H' _ ⟨D, e, A⟩ => ⟨D, e, by rw [List.map_id] at A; exact A⟩) fun u H2 x2 k2 ⟨D, e, A⟩ => by subst e; exact q D H2 k2 (A.pull x1)
/-! ### possible -/
section
variable {R : Rs} {σ : L2.St} {H H' H0 : Hp} {n m : Nat} {te : TE} {Da : Addr} {es fs : List PyData} {Dn : Ends} {tz : TS} {d : PyData}
/-- xs.extend(ys) -/
theorem s_ext {i : Nat} (kk : WE.Ok R n H) (A : AccAt K R H0 Da es H) (hi : σ[i]? = some (some (.ref Da))) (h : Ev R n m te σ H (lP K R (· = fs))) (hf : immAll fs = true) (hl : es.length ≤ 10000) (hl2 : fs.length ≤ 10000) (q : ∀ H', WE.Ok R m H' → AccAt K R H0 Da (es ++ fs) H' → Dn.nx σ H') : tDrop (tBM K "list" rExtend (tVar i) (tCons te tNil)) Dn σ H := by
  obtain ⟨acc, h1, h2⟩ := A.ex
  refine ⟨_, hi, .inl ⟨rfl, _, .inl (.inl h1)⟩, ?_⟩
  refine h H (.refl _) kk _ fun v H2 x2 k2 ⟨b, zs, ds, e, nb, hb, hd, ed⟩ => ?_
  have ed : ds = fs := ed
  subst e ed
  have h3 : H2 Da = some (.lst acc) := x2.keep Da _ h1 A.nm (fun _ z => nomatch z)
  have t : Tx H2 (upd H2 Da (.lst (acc ++ zs))) := .lst h3
  have e1 := h2.length
  have e2 := hd.length
  refine ⟨Da, b, acc, zs, rfl, rfl, h3, hb, Nat.le_trans (by omega) (show 20000 ≤ sizeLine by decide), ?_⟩
  refine q _ (ok_lst k2 h3 A.nm) ⟨A.new, (A.xt.trans x2).own A.new, A.nm, immAll_mem fun e he => ?_, acc ++ zs, upd_same, (h2.imm (x2.tx.trans t) A.im).append (hd.imm t hf)⟩
  rcases List.mem_append.mp he with z | z
  · exact immAll_get A.im e z
  · exact immAll_get hf e z
theorem q_ext {i : Nat} (kk : WE.Ok R n H) (A : AccAt K R H0 Da es H) (hi : σ[i]? = some (some (.ref Da))) (h : Ev R n m te σ H (lP K R (· = fs))) (hf : immAll fs = true) (hl : es.length ≤ 10000) (hl2 : fs.length ≤ 10000) (q : ∀ H', WE.Ok R m H' → AccAt K R H0 Da (es ++ fs) H' → tz Dn σ H') : tSeq (tDrop (tBM K "list" rExtend (tVar i) (tCons te tNil))) tz Dn σ H := s_ext (Dn := { Dn with nx := tz Dn }) kk A hi h hf hl hl2 q
theorem s_appK {i : Nat} (kk : WE.Ok R n H) (A : AccAt K R H0 Da es H) (hi : σ[i]? = some (some (.ref Da))) (h : Ev R n m te σ H (dP K R (· = d))) (hd : imm d = true) (hl : es.length ≤ 10000) (q : ∀ H', WE.Ok R m H' → AccAt K R H0 Da (es ++ [d]) H' → Dn.nx σ H') : tDrop (tBM K "list" rAppend (tVar i) (tCons te tNil)) Dn σ H :=
  s_app kk A hi h (fun d' e => by rw [show d' = d from e]; exact hd) (by omega) fun d' H' e k' A' _ => q H' k' (by rw [show d' = d from e] at A'; exact A')
theorem q_appK {i : Nat} (kk : WE.Ok R n H) (A : AccAt K R H0 Da es H) (hi : σ[i]? = some (some (.ref Da))) (h : Ev R n m te σ H (dP K R (· = d))) (hd : imm d = true) (hl : es.length ≤ 10000) (q : ∀ H', WE.Ok R m H' → AccAt K R H0 Da (es ++ [d]) H' → tz Dn σ H') : tSeq (tDrop (tBM K "list" rAppend (tVar i) (tCons te tNil))) tz Dn σ H := s_appK (Dn := { Dn with nx := tz Dn }) kk A hi h hd hl q
/-- if t: xs.extend(ys) -/
theorem q_ifExt {t : TT} {b : Bool} {i : Nat} (kk : WE.Ok R n H) (h : EvT R n m t σ H (· = b)) (A : AccAt K R H0 Da es H) (hi : σ[i]? = some (some (.ref Da))) (he : b = true → ∀ H1, Xt R H H1 → WE.Ok R m H1 → Ev R m m te σ H1 (lP K R (· = fs))) (hf : immAll fs = true) (hl : es.length ≤ 10000) (hl2 : fs.length ≤ 10000) (q : ∀ H', WE.Ok R m H' → AccAt K R H0 Da (es ++ (if b then fs else [])) H' → tz Dn σ H') :
    tSeq (tIfS t (tDrop (tBM K "list" rExtend (tVar i) (tCons te tNil))) tNext) tz Dn σ H :=
  q_if kk h (fun hb H1 x1 k1 => s_ext k1 (A.go x1) hi (he hb.symm H1 x1 k1) hf hl hl2 fun H2 k2 A2 => q H2 k2 (by rw [if_pos (show b = true from hb.symm)]; exact A2)) fun hb H1 x1 k1 => q H1 k1 (by
    have hb : false = b := hb
    subst hb
    rw [if_neg (by decide), List.append_nil]
    exact A.go x1)
/-- if t: xs.append(y) -/
theorem s_ifApp {t : TT} {b : Bool} {i : Nat} (kk : WE.Ok R n H) (h : EvT R n m t σ H (· = b)) (A : AccAt K R H0 Da es H) (hi : σ[i]? = some (some (.ref Da))) (he : ∀ H1, Xt R H H1 → WE.Ok R m H1 → Ev R m m te σ H1 (dP K R (· = d))) (hd : imm d = true) (hl : es.length ≤ 10000) (q : ∀ H', WE.Ok R m H' → AccAt K R H0 Da (es ++ (if b then [d] else [])) H' → Dn.nx σ H') :
    tIfS t (tDrop (tBM K "list" rAppend (tVar i) (tCons te tNil))) tNext Dn σ H :=
  s_if kk h (fun hb H1 x1 k1 => s_appK k1 (A.go x1) hi (he H1 x1 k1) hd hl fun H2 k2 A2 => q H2 k2 (by rw [if_pos (show b = true from hb.symm)]; exact A2)) fun hb H1 x1 k1 => q H1 k1 (by
    have hb : false = b := hb
    subst hb
    rw [if_neg (by decide), List.append_nil]
    exact A.go x1)
/-- a constant tuple of the module -/
structure CstT (K : PySem.W.Frag) (mg : Str → Option Value) (x : Str) (ds : List PyData) : Prop where
  ex : ∃ a xs, mg x = some (.ref a) ∧ (∀ H, SqT K H a xs) ∧ ∀ M H, DqAll K M H xs ds
theorem CstT.cst {mg : Str → Option Value} {x : Str} {ds : List PyData} (c : CstT K mg x ds) : Cst K mg x (.tuple ds) := by
  obtain ⟨a, xs, h1, h2, h3⟩ := c.ex
  exact ⟨a, h1, fun M H => .tup (h2 H) (h3 M H)⟩
theorem q_forC {a : Addr} {xs : List V} {g : TG} {tu : TS} {ds : List PyData} (h2 : ∀ H, SqT K H a xs) (h3 : ∀ M H, DqAll K M H xs ds) (z : ∃ Pv : Nat → L2.St → Hp → Prop, Pv 0 σ H ∧
      (∀ (i : Nat) (d : PyData) (v : V) (σ' : L2.St) (H' : Hp), ds[i]? = some d → Pv i σ' H' → (∀ M H, Dq K M H v d) → g v σ' H' fun σ2 H2 => tu { Dn with nx := Pv (i + 1), ct := Pv (i + 1), bk := tz Dn } σ2 H2) ∧
      ∀ σ' H', Pv ds.length σ' H' → tz Dn σ' H') : tSeq (tFor (iTup K (tC (.ref a))) g tu) tz Dn σ H := by
  obtain ⟨Pv, z0, z2, z3⟩ := z
  have hl := (h3 (fun _ => False) H).length
  refine ⟨a, rfl, ⟨xs, h2 H⟩, for_it (D := { Dn with nx := tz Dn }) (walk_tup (K := K) (a := a) (xs := xs)) Pv z0 (fun i σ' H' _ q => h2 H') (fun i y σ' H' H'' hi q yy => ?_) (fun σ' H' q => z3 σ' H' (by rw [← hl]; exact q))⟩
  obtain ⟨e1, e2⟩ := yy
  subst e1
  obtain ⟨d, q1, q2⟩ := (h3 (fun _ => False) H'').getV e2
  refine z2 i d y σ' H'' q1 q fun M H => ?_
  obtain ⟨d', q3, q4⟩ := (h3 M H).getV e2
  rw [q1] at q3
  cases q3
  exact q4
end
theorem sc_possible : FnScope ["pair", "run", "talk", "_", "events", "channel", "value", "place"] ["pair", "run"] (defScope s_possible) := ⟨rfl, rfl, rfl, by decide +kernel, rfl, by decide +kernel, by decide +kernel⟩
def SpPo (T : List (Addr × Str)) (K : PySem.W.Frag) (CP CS CR : Addr) : Sp := fun vs H Q _ => vs.length = 2 ∧ ∃ (R : Rs) (m : Nat) (p : Addr) (v : V) (B : Tb) (es : List Evt), R.T = T ∧ vs = [.ref p, v] ∧ Asked K R m CP CS CR B es p v H ∧ ∀ D H', WE.Ok R m H' → AccAt K R H D ((B.deeds (B.walk Sd.init es)).map Evt.d) H' → Q (.ref D) H'
theorem okF_possible (D : Def1 K mg "possible" s_possible) (Bl : Bl mg) (C : TkC K CT) (N : PairC P w K mg base CP) (NS : Prp8 P w K mg base CS "takes" "_takes") (C1 : Cal P w K mg base CX0 6 "walk" ["pair", "run"] (SpW T K CP CT CS CR)) (M1 : MetT P w K mg base 3 CT "is_free" (SpFr T K CT CS CR)) (c1 : CstT K mg "CHANNELS" [.str "forward", .str "backward"]) : CalF P w K mg base CX0 7 "possible" s_possible ["pair", "run"] (SpPo T K CP CS CR) := by
  refine calF_of D sc_possible (fun vs H Q E h => h.1) (fun f cdv A outer s0 H vs Q E hr hh => ?_)
  obtain ⟨_, R, m, p, v, B, es, rfl, rfl, Ak, q⟩ := hh
  obtain ⟨ca, cxs, g1, g2, g3⟩ := c1.ex
  refine ⟨_, pss_cons (ps_asg (pe_cal C1 hr (by decide) (by rfl) pass0 (pa_cons (pv 0) (pa_cons (pv 1) pa_nil))) (pg_tup rfl (pgs_cons (pg_name (i := 2) sc_possible.nd rfl (by first | exact .inl rfl | exact .inr rfl)) (pgs_cons (pg_name (i := 3) sc_possible.nd rfl (.inl rfl)) pgs_nil))))
    (pss_cons (ps_set (i := 4) sc_possible.nd rfl (.inl rfl) (pe_lst pa_nil))
    (pss_cons (ps_if (pt_val (pe_mm0 M1 C.cl hr (by decide) (pv 2))) (pss_one (ps_expr (pe_bm PySem.F.plainAttrs_list PySem.F.slot_list_extend PySem.F.type_list_extend mt_extend (pv 4) (pa_cons (pe_lc (own := [("value", 6)]) (g := gName 6) (tt := tYes) (te := tTup (tCons (tC (.str "hand")) (tCons (tVar 6) tNil))) rfl sc_possible.nd (pi_range1 (by rfl) Bl.range (pa_cons (pe_prp (pe_prp (pv 0) N.ci.cl N.p1 hr (by decide)) NS.cl.cl NS.c3.p1 hr (by decide)) pa_nil)) (blkOk_by (N := ["pair", "run", "talk", "_", "events", "channel", "value", "place"]) (sc := defScope s_possible) (by decide +kernel))
        (fun _ _ _ _ _ => pg_name (i := 6) sc_possible.nd rfl (Or.inl rfl)) (fun _ _ _ _ _ => pts_nil) (fun _ _ _ _ _ => pe_tup (pa_cons pe_str (pa_cons (pv 6) pa_nil)))) pa_nil)))) pss_nil)
    (pss_cons (ps_expr (pe_bm PySem.F.plainAttrs_list PySem.F.slot_list_append PySem.F.type_list_append mt_append (pv 4) (pa_cons (pe_tup (pa_cons pe_str pa_nil)) pa_nil)))
    (pss_cons (ps_expr (pe_bm PySem.F.plainAttrs_list PySem.F.slot_list_append PySem.F.type_list_append mt_append (pv 4) (pa_cons (pe_tup (pa_cons pe_str pa_nil)) pa_nil)))
    (pss_cons (ps_for PassesOwn.never rfl (pi_tup (pe_glob (v := .ref ca) (by rfl) g1 rfl)) (pg_name (i := 5) sc_possible.nd rfl (by first | exact .inl rfl | exact .inr rfl))
      (pss_one (ps_if (pt_cmpR op_gt (pe_callB call_len_seq (by rfl) Bl.len PySem.boot_len (pa_cons (pe_dget (Room.units1 hr) (pe_fld (pv 2) rfl) (pv 5) (fun _ _ => rfl)) pa_nil)) pe_int (nomark _)) (pss_one (ps_expr (pe_bm PySem.F.plainAttrs_list PySem.F.slot_list_append PySem.F.type_list_append mt_append (pv 4) (pa_cons (pe_tup (pa_cons pe_str (pa_cons (pv 5) pa_nil))) pa_nil)))) pss_nil)))
    (pss_cons (ps_for PassesOwn.never rfl (pi_tup (pe_glob (v := .ref ca) (by rfl) g1 rfl)) (pg_name (i := 5) sc_possible.nd rfl (by first | exact .inl rfl | exact .inr rfl))
      (pss_one (ps_expr (pe_bm PySem.F.plainAttrs_list PySem.F.slot_list_extend PySem.F.type_list_extend mt_extend (pv 4) (pa_cons (pe_lc (own := [("place", 7)]) (g := gName 7) (tt := tYes) (te := tTup (tCons (tC (.str "lose")) (tCons (tVar 5) (tCons (tVar 7) tNil)))) rfl sc_possible.nd (pi_range1 (by rfl) Bl.range (pa_cons (pe_callB call_len_seq (by rfl) Bl.len PySem.boot_len (pa_cons (pe_dget (Room.units1 hr) (pe_fld (pv 2) rfl) (pv 5) (fun _ _ => rfl)) pa_nil)) pa_nil)) (blkOk_by (N := ["pair", "run", "talk", "_", "events", "channel", "value", "place"]) (sc := defScope s_possible) (by decide +kernel))
        (fun _ _ _ _ _ => pg_name (i := 7) sc_possible.nd rfl (Or.inl rfl)) (fun _ _ _ _ _ => pts_nil) (fun _ _ _ _ _ => pe_tup (pa_cons pe_str (pa_cons (pv 5) (pa_cons (pv 7) pa_nil))))) pa_nil)))))
    (pss_cons (ps_expr (pe_bm PySem.F.plainAttrs_list PySem.F.slot_list_append PySem.F.type_list_append mt_append (pv 4) (pa_cons (pe_tup (pa_cons pe_str (pa_cons pe_str pa_nil))) pa_nil)))
    (pss_cons (ps_expr (pe_bm PySem.F.plainAttrs_list PySem.F.slot_list_append PySem.F.type_list_append mt_append (pv 4) (pa_cons (pe_tup (pa_cons pe_str (pa_cons pe_str pa_nil))) pa_nil)))
    (pss_one (ps_ret (pv 4))))))))))), ?_⟩
  refine q_asgT (m := m) Ak.ok (ev_walk rfl rfl Ak.pr Ak.rn Ak.O Ak.run Ak.z) fun v1 H1 x1 k1 ⟨t, x, ch, l1, l2, Da, e, ht, tk, l⟩ => ?_
  subst e
  refine ⟨t, _, rfl, .inl (.inl ht), rfl, _, _, rfl, _, _, rfl, rfl, ?_⟩
  have O := Ak.O
  have W := O.walk O.init Ak.run
  have sm : (B.walk Sd.init es).Sm := sm_walk Ak.z
  generalize hy : B.walk Sd.init es = y at *
  have fl := sm.f
  have gl := sm.g
  have a1 := O.sz.1.1
  have a64 := O.sz.1.2
  have ea : ((B.a.toNat : Nat) : Int) = B.a := by omega
  refine q_acc0 (K := K) k1 fun De H2 k2 A2 => ?_
  have tkm : ∀ {H' : Hp}, Xt R H1 H' → TalkAt K R.M CT CS CR B y x ch l1 l2 H' := fun x' => tk.mono x'
  have self : ∀ {H' : Hp} {σ : L2.St}, σ[2]? = some (some (.ref x)) → Xt R H1 H' → Ev R m m (tVar 2) σ H' (tkP K R CT CS CR B y x ch l1 l2) := fun h t => ev_var h ⟨rfl, tkm t⟩
  generalize hF0 : (List.range B.a.toNat).map (fun v : Nat => PyData.tuple [.str "hand", .int (v : Int)]) = F0
  have iF0 : immAll F0 = true := by
    subst hF0
    exact immAll_mem fun d hd => by
      obtain ⟨i, _, rfl⟩ := List.mem_map.mp hd
      rfl
  have lF0 : F0.length ≤ 64 := by
    subst hF0
    rw [List.length_map, List.length_range]
    omega
  have pP1 := Ak.pr.mono x1
  refine q_ifExt (n := m) (m := m) (b := B.free y) k2 (evt_B (ev_free (self rfl A2.xt) O W)) A2 rfl (fun hb H3 x3 k3 => ?_) iF0 (by show 0 ≤ 10000; decide) (by omega) fun H3 k3 A3 => ?_
  · refine (ev_lcRI (nn := B.a.toNat) (f := fun v : Nat => PyData.tuple [.str "hand", .int (v : Int)]) (ev_asI (ev_prp (ev_prpS (ev_var (P := pP K R CP CS CR B.fS B.fR) rfl ⟨p, rfl, (pP1.mono A2.xt).mono x3⟩)) (d := .int B.a) (by simp [Tb.fS, sndF])) fun d e => ⟨B.a, e, ea.symm⟩) (by omega) (fun _ => rfl) (fun _ => rfl) fun i H4 hi x4 => fun {m} => ev_tupK [.str "hand", .int (i : Int)] (eva_d ev_ds (eva_d (ev_dvar rfl (.int _)) eva_nil)) (by show 2 ≤ 1000; decide)).imp fun v H' _ ⟨a, xs, ds, e, n1, h, d, e2⟩ => ⟨a, xs, ds, e, n1, h, d, by rw [show ds = _ from e2]; exact hF0⟩
  have l3 : ((if B.free y then F0 else []) : List PyData).length ≤ 64 := by
    split
    · exact lF0
    · exact Nat.zero_le _
  refine q_appK (n := m) (m := m) k3 A3 rfl (ev_tupK [.str "send"] (eva_d ev_ds eva_nil) (by show 1 ≤ 1000; decide)) rfl (by rw [List.nil_append]; omega) fun H4 k4 A4 => ?_
  refine q_appK (n := m) (m := m) k4 A4 rfl (ev_tupK [.str "answer"] (eva_d ev_ds eva_nil) (by show 1 ≤ 1000; decide)) rfl (by rw [List.nil_append, List.length_append]; show _ + 1 ≤ _; omega) fun H5 k5 A5 => ?_
  generalize hE1 : (([] ++ (if B.free y then F0 else [])) ++ [PyData.tuple [.str "send"]]) ++ [PyData.tuple [.str "answer"]] = E1 at A5
  have lE1 : E1.length ≤ 70 := by
    subst hE1
    rw [List.nil_append, List.length_append, List.length_append]
    show _ + 1 + 1 ≤ _
    omega
  generalize hpf : (if !y.f.isEmpty then [PyData.tuple [.str "pass", .str "forward"]] else []) = pf
  generalize hpb : (if !y.g.isEmpty then [PyData.tuple [.str "pass", .str "backward"]] else []) = pb
  have lpf : pf.length ≤ 1 := by subst hpf; split <;> simp
  have lpb : pb.length ≤ 1 := by subst hpb; split <;> simp
  have tst : ∀ {z : Str} {σ : L2.St} {H' : Hp}, (z = "forward" ∨ z = "backward") → σ[2]? = some (some (.ref x)) → σ[5]? = some (some (.str z)) → Xt R H1 H' → EvT R m m (tTest (tOp (rI0 fun i j => .bl (decide (i > j))) (tCB (fun vs H Q => ∃ (a : Addr) (xs : List V), vs = [V.ref a] ∧ (SqL K H a xs ∨ SqT K H a xs) ∧ Q (.int (xs.length : Int)) H) (tCons (tDGet (tFld K (tVar 2) "channels") (tVar 5)) tNil)) (tC (.int 0)))) σ H' (· = !(y.chn z).isEmpty) := fun {z σ H'} hz h2' h5 x' =>
    evt_test (ev_I0 (pi := (· = (((y.chn z).length : Nat) : Int))) (qi := (· = 0)) (ev_lenCh C (self h2' x') hz (ev_dvar h5 (.str z))) ev_int fun i j H1 e1 e2 => ⟨_, rfl, by
      have e1 : i = (((y.chn z).length : Nat) : Int) := e1
      have e2 : j = 0 := e2
      subst e1 e2
      cases y.chn z with
      | nil => rfl
      | cons a b => exact decide_eq_true (by simp)⟩)
  refine q_forC (K := K) g2 g3 ⟨fun i σ' H' => ∃ y5, σ' = [some (.ref p), some v, some (.ref x), some (.ref Da), some (.ref De), y5, none, none] ∧ WE.Ok R m H' ∧ AccAt K R H1 De (E1 ++ (if i = 0 then [] else if i = 1 then pf else pf ++ pb)) H', ⟨none, rfl, k5, by rw [if_pos rfl, List.append_nil]; exact A5⟩, fun i d v5 σ' H' hi ⟨y5, eσ, k', A'⟩ hd => ?_, fun σ' H6 ⟨y5, eσ, k6, A6⟩ => ?_⟩
  · subst eσ
    match i, hi with
    | 0, hi =>
      cases (Option.some.inj hi)
      have := dq_str (hd R.M H')
      subst this
      rw [if_pos rfl, List.append_nil] at A'
      refine s_ifApp (n := m) (m := m) k' (tst (.inl rfl) rfl rfl A'.xt) A' rfl (fun H7 x7 k7 => ev_tupK [.str "pass", .str "forward"] (eva_d ev_ds (eva_d (ev_dvar rfl (.str _)) eva_nil)) (by show 2 ≤ 1000; decide)) rfl (by omega) fun H7 k7 A7 => ⟨_, rfl, k7, ?_⟩
      rw [if_neg (by decide), if_pos rfl, ← hpf]
      exact A7
    | 1, hi =>
      cases (Option.some.inj hi)
      have := dq_str (hd R.M H')
      subst this
      rw [if_neg (by decide), if_pos rfl] at A'
      refine s_ifApp (n := m) (m := m) k' (tst (.inr rfl) rfl rfl A'.xt) A' rfl (fun H7 x7 k7 => ev_tupK [.str "pass", .str "backward"] (eva_d ev_ds (eva_d (ev_dvar rfl (.str _)) eva_nil)) (by show 2 ≤ 1000; decide)) rfl (by rw [List.length_append]; omega) fun H7 k7 A7 => ⟨_, rfl, k7, ?_⟩
      rw [if_neg (by decide), if_neg (by decide), ← hpb, ← List.append_assoc]
      exact A7
    | i + 2, hi => simp at hi
  · subst eσ
    have A6 : AccAt K R H1 De (E1 ++ (pf ++ pb)) H6 := A6
    generalize hE2 : E1 ++ (pf ++ pb) = E2 at A6
    have lE2 : E2.length ≤ 80 := by
      subst hE2
      rw [List.length_append, List.length_append]
      omega
    generalize hlf : (List.range y.f.length).map (fun i : Nat => PyData.tuple [.str "lose", .str "forward", .int (i : Int)]) = lf
    generalize hlb : (List.range y.g.length).map (fun i : Nat => PyData.tuple [.str "lose", .str "backward", .int (i : Int)]) = lb
    have llf : lf.length ≤ 1000 := by subst hlf; rw [List.length_map, List.length_range]; exact fl
    have llb : lb.length ≤ 1000 := by subst hlb; rw [List.length_map, List.length_range]; exact gl
    have ilf : immAll lf = true := by
      subst hlf
      exact immAll_mem fun d hd => by
        obtain ⟨i, _, rfl⟩ := List.mem_map.mp hd
        rfl
    have ilb : immAll lb = true := by
      subst hlb
      exact immAll_mem fun d hd => by
        obtain ⟨i, _, rfl⟩ := List.mem_map.mp hd
        rfl
    have lc : ∀ {z : Str} {σ : L2.St} {H' : Hp} {nn : Nat}, (z = "forward" ∨ z = "backward") → (y.chn z).length = nn → nn ≤ 1000 → σ[2]? = some (some (.ref x)) → σ[5]? = some (some (.str z)) → (∀ x, wipe ((wipe σ [7]).set 7 (some x)) [7] = wipe σ [7]) → (∀ u, ((wipe σ [7]).set 7 (some u))[7]? = some (some u)) → (∀ u, ((wipe σ [7]).set 7 (some u))[5]? = some (some (.str z))) → Xt R H1 H' → Ev R m m (tLc (iRng1 (tCons (tCB (fun vs H Q => ∃ (a : Addr) (xs : List V), vs = [V.ref a] ∧ (SqL K H a xs ∨ SqT K H a xs) ∧ Q (.int (xs.length : Int)) H) (tCons (tDGet (tFld K (tVar 2) "channels") (tVar 5)) tNil)) tNil)) (gName 7) tYes (tTup (tCons (tC (.str "lose")) (tCons (tVar 5) (tCons (tVar 7) tNil)))) [7]) σ H' (lP K R (· = (List.range nn).map fun i : Nat => PyData.tuple [.str "lose", .str z, .int (i : Int)])) := fun {z σ H' nn} hz hn hn2 h2' h5 hw h7 h75 x' =>
      ev_lcRI (nn := nn) (f := fun i : Nat => PyData.tuple [.str "lose", .str z, .int (i : Int)]) ((ev_lenCh C (self h2' x') hz (ev_dvar h5 (.str z))).imp fun v H' _ ⟨i, e, e2⟩ => ⟨i, e, by rw [show i = _ from e2, hn]⟩) (by omega) hw (fun _ => rfl) fun i H4 hi x4 => fun {m} => ev_tupK [.str "lose", .str z, .int (i : Int)] (eva_d ev_ds (eva_d (ev_dvar (h75 _) (.str z)) (eva_d (ev_dvar (h7 _) (.int _)) eva_nil))) (by show 3 ≤ 1000; decide)
    refine q_forC (K := K) g2 g3 ⟨fun i σ' H' => ∃ y5, σ' = [some (.ref p), some v, some (.ref x), some (.ref Da), some (.ref De), y5, none, none] ∧ WE.Ok R m H' ∧ AccAt K R H1 De (E2 ++ (if i = 0 then [] else if i = 1 then lf else lf ++ lb)) H', ⟨_, rfl, k6, by rw [if_pos rfl, List.append_nil]; exact A6⟩, fun i d v5 σ' H' hi ⟨y5, eσ, k', A'⟩ hd => ?_, fun σ' H7 ⟨y5, eσ, k7, A7⟩ => ?_⟩
    · subst eσ
      match i, hi with
      | 0, hi =>
        cases (Option.some.inj hi)
        have := dq_str (hd R.M H')
        subst this
        rw [if_pos rfl, List.append_nil] at A'
        refine s_ext (n := m) (m := m) (fs := lf) k' A' rfl ((lc (.inl rfl) rfl fl rfl rfl (fun _ => rfl) (fun _ => rfl) (fun _ => rfl) A'.xt).imp fun v H' _ ⟨a, xs, ds, e, n1, h, d, e2⟩ => ⟨a, xs, ds, e, n1, h, d, by rw [show ds = _ from e2, ← hlf]; rfl⟩) ilf (by omega) (by omega) fun H8 k8 A8 => ⟨_, rfl, k8, ?_⟩
        rw [if_neg (by decide), if_pos rfl]
        exact A8
      | 1, hi =>
        cases (Option.some.inj hi)
        have := dq_str (hd R.M H')
        subst this
        rw [if_neg (by decide), if_pos rfl] at A'
        refine s_ext (n := m) (m := m) (fs := lb) k' A' rfl ((lc (.inr rfl) rfl gl rfl rfl (fun _ => rfl) (fun _ => rfl) (fun _ => rfl) A'.xt).imp fun v H' _ ⟨a, xs, ds, e, n1, h, d, e2⟩ => ⟨a, xs, ds, e, n1, h, d, by rw [show ds = _ from e2, ← hlb]; rfl⟩) ilb (by rw [List.length_append]; omega) (by omega) fun H8 k8 A8 => ⟨_, rfl, k8, ?_⟩
        rw [if_neg (by decide), if_neg (by decide), ← List.append_assoc]
        exact A8
      | i + 2, hi => simp at hi
    · subst eσ
      have A7 : AccAt K R H1 De (E2 ++ (lf ++ lb)) H7 := A7
      refine q_appK (n := m) (m := m) k7 A7 rfl (ev_tupK [.str "crash", .str "sender"] (eva_d ev_ds (eva_d ev_ds eva_nil)) (by show 2 ≤ 1000; decide)) rfl (by rw [List.length_append, List.length_append]; omega) fun H8 k8 A8 => ?_
      refine q_appK (n := m) (m := m) k8 A8 rfl (ev_tupK [.str "crash", .str "receiver"] (eva_d ev_ds (eva_d ev_ds eva_nil)) (by show 2 ≤ 1000; decide)) rfl (by rw [List.length_append, List.length_append, List.length_append]; show _ + 1 ≤ _; omega) fun H9 k9 A9 => ?_
      refine s_ret (m := m) (P := aP K R H ((B.deeds y).map Evt.d)) k9 (ev_var rfl ⟨De, rfl, ?_⟩) fun u H10 x10 k10 ⟨D, e, A⟩ => by subst e; exact q D H10 k10 A
      have e9 : (B.deeds y).map Evt.d = E2 ++ (lf ++ lb) ++ [.tuple [.str "crash", .str "sender"]] ++ [.tuple [.str "crash", .str "receiver"]] := by
        rw [map_evt, hF0, hpf, hpb, hlf, hlb, ← hE2, ← hE1]
        simp only [List.nil_append, List.append_assoc, List.cons_append]
      rw [e9]
      exact A9.pull x1
end
end LW

set_option Elab.async false
set_option linter.all false
set_option maxRecDepth 100000
set_option maxHeartbeats 8000000
namespace LW
open PySem PySem.Spec PyProof.Rows L2 LamX NdefX WE WLam WQ
/-! ### a run's contracts, by keywords -/
abbrev ksRP : List Str := ["run", "pair"]
structure KRun (P : Program) (w : World) (K : PySem.W.Frag) (mg : Str → Option Value) (base : Heap) (x : Str) (sp : Sp) : Prop where
  ex : ∃ (f : Addr) (fd : FuncData), mg x = some (.ref f) ∧ PySem.W.keepIn K (.ref f) = true ∧ FnOk P w K mg base CX0 7 f fd ["pair", "run"] sp ∧ KBn K fd ["pair", "run"] 0 ksRP (fun us ws => us ++ ws.reverse) (fun vs zs => vs ++ zs.reverse)
section
variable {P : Program} {w : World} {K : PySem.W.Frag} {mg : Str → Option Value} {base : Heap} {sp : Sp}
theorem krun_walked (C : CalF P w K mg base CX0 7 "walked" s_walked ["pair", "run"] sp) : KRun P w K mg base "walked" sp := by
  obtain ⟨f, fd, F, g, h⟩ := C.ex
  exact ⟨f, fd, g, F.kp, h, kbnAny F (fun r1 r2 => r1.append (vals_rev r2)) fun _ _ _ _ _ _ us ws h1 h2 => match us, ws, h1, h2 with | [], [_, _], _, _ => rfl⟩
theorem krun_delivered (C : CalF P w K mg base CX0 7 "delivered" s_delivered ["pair", "run"] sp) : KRun P w K mg base "delivered" sp := by
  obtain ⟨f, fd, F, g, h⟩ := C.ex
  exact ⟨f, fd, g, F.kp, h, kbnAny F (fun r1 r2 => r1.append (vals_rev r2)) fun _ _ _ _ _ _ us ws h1 h2 => match us, ws, h1, h2 with | [], [_, _], _, _ => rfl⟩
theorem krun_possible (C : CalF P w K mg base CX0 7 "possible" s_possible ["pair", "run"] sp) : KRun P w K mg base "possible" sp := by
  obtain ⟨f, fd, F, g, h⟩ := C.ex
  exact ⟨f, fd, g, F.kp, h, kbnAny F (fun r1 r2 => r1.append (vals_rev r2)) fun _ _ _ _ _ _ us ws h1 h2 => match us, ws, h1, h2 with | [], [_, _], _, _ => rfl⟩
end
section
variable {X : Cx} {j : Nat} {kws : List Keyword} {tk : TA} {p pos : Pos} {x : Str} {sp : Sp}
theorem pe_run (M : KRun X.prog X.w X.K X.mg X.base x sp) (hr : Room j X.A) (hj : 7 ≤ j) (hg : Gl X x) (hk : PK X kws tk) (hdb : (x == ("__debug__" : Str)) = false := by decide) (h1 : ((backToKw pos (keywordEach kws X.env)).all fun x => x.1.isSome) = true := by rfl) (h2 : (backToKw pos (keywordEach kws X.env)).filterMap (fun x => x.1) = ksRP := by rfl)
    (h5 : ((backTo pos (starEach [] X.env)).any (·.1) || (backToKw pos (keywordEach kws X.env)).any (·.1.isNone)) = false := by rfl) :
    PE X (.Call (.Name x p) [] kws pos) (tCallK0 2 sp (fun vs zs => vs ++ zs.reverse) E0 tk) := by
  obtain ⟨f, fd, m1, m2, m3, m4⟩ := M.ex
  exact pe_callK0 m3 (hr.mono hj) hg m1 m2 m4 pass0 hk h1 h2 hdb h5
end
section
variable {K : PySem.W.Frag} {R : Rs} {σ : L2.St} {H H' H0 : Hp} {n m k : Nat} {ta tb te : TE} {CP CS CR : Addr} {B : Tb} {es : List Evt} {v : V} {ds : List PyData}
/-- a value that is a run -/
def rP (K : PySem.W.Frag) (R : Rs) (es : List Evt) : Rp R := ⟨fun v H => RunAt K R.M H v es, fun _ _ _ x h => h.mono x⟩
theorem runP (h : (rP K R es).r v H) : RunAt K R.M H v es := h
theorem rP_acc {Da : Addr} (A : AccAt K R H0 Da (es.map Evt.d) H) : (rP K R es).r (.ref Da) H := by
  obtain ⟨acc, h1, h2⟩ := A.ex
  exact .inl ⟨Da, acc, rfl, A.nm, h1, h2⟩
theorem rP_l (h : (lP K R (· = es.map Evt.d)).r v H) : (rP K R es).r v H := by
  obtain ⟨a, xs, ds, e, n1, h, d, e2⟩ := h
  rw [show ds = _ from e2] at d
  exact .inl ⟨a, xs, e, n1, h, d⟩
theorem rP_t (h : Dq K R.M H v (.tuple (es.map Evt.d))) : (rP K R es).r v H := .inr h
abbrev SpAsk (T : List (Addr × Str)) (K : PySem.W.Frag) (CP CS CR : Addr) (B : Tb) (es : List Evt) (R : Rs) (m : Nat) : V → V → Hp → Prop := fun u v H => ∃ p, u = .ref p ∧ Asked K R m CP CS CR B es p v H
theorem ask_of {u : V} (k1 : WE.Ok R m H) (hp : (pP K R CP CS CR B.fS B.fR).r u H) (hr : (rP K R es).r v H) (O : B.Ok) (hR : B.Run Sd.init es) (hz : es.length ≤ 500) : ∃ p, u = .ref p ∧ Asked K R m CP CS CR B es p v H := by
  obtain ⟨p, e, h⟩ := hp
  exact ⟨p, e, k1, h, hr, O, hR, hz⟩
theorem ev_wd (ha : Ev R n k ta σ H (pP K R CP CS CR B.fS B.fR)) (hb : Ev R k m tb σ H (rP K R es)) (O : B.Ok) (hR : B.Run Sd.init es) (hz : es.length ≤ 500) : Ev R n m (tCall (SpWd R.T K CP CS CR) [] E0 (tCons ta (tCons tb tNil))) σ H (dP K R (· = (B.walk Sd.init es).d)) :=
  ev_call (eva_cons ha (eva_cons hb eva_nil)) fun vs H1 x1 k1 r Q q => by
    obtain ⟨u, r1, rfl, hu, u2, r2, rfl, h2, e⟩ := r
    cases e
    obtain ⟨p, rfl, Ak⟩ := ask_of k1 hu h2 O hR hz
    exact ⟨rfl, R, m, p, _, B, es, rfl, rfl, Ak, fun z H' x' k' hd => q z H' x' k' ⟨_, hd, rfl⟩⟩
theorem ev_dl (ha : Ev R n k ta σ H (pP K R CP CS CR B.fS B.fR)) (hb : Ev R k m tb σ H (rP K R es)) (O : B.Ok) (hR : B.Run Sd.init es) (hz : es.length ≤ 500) : Ev R n m (tCall (SpDl R.T K CP CS CR) [] E0 (tCons ta (tCons tb tNil))) σ H (aP K R H (vals (B.outs Sd.init es))) := fun H0 x0 k0 Q q => 
  (ev_call (P := aP K R H0 (vals (B.outs Sd.init es))) (eva_cons (fun H1 x1 => ha H1 (x0.trans x1)) (eva_cons (fun H1 x1 => hb H1 (x0.trans x1)) eva_nil)) fun vs H1 x1 k1 r Q q => by
    obtain ⟨u, r1, rfl, hu, u2, r2, rfl, h2, e⟩ := r
    cases e
    obtain ⟨p, rfl, Ak⟩ := ask_of k1 hu h2 O hR hz
    exact ⟨rfl, R, m, p, _, B, es, rfl, rfl, Ak, fun D H' k' A => q _ H' A.xt k' ⟨D, rfl, A.pull x1⟩⟩) H0 (.refl _) k0 Q fun v H2 x2 k2 ⟨D, e, A⟩ => q v H2 x2 k2 ⟨D, e, A.pull x0⟩
theorem ev_po (ha : Ev R n k ta σ H (pP K R CP CS CR B.fS B.fR)) (hb : Ev R k m tb σ H (rP K R es)) (O : B.Ok) (hR : B.Run Sd.init es) (hz : es.length ≤ 500) : Ev R n m (tCall (SpPo R.T K CP CS CR) [] E0 (tCons ta (tCons tb tNil))) σ H (aP K R H ((B.deeds (B.walk Sd.init es)).map Evt.d)) := fun H0 x0 k0 Q q => 
  (ev_call (P := aP K R H0 ((B.deeds (B.walk Sd.init es)).map Evt.d)) (eva_cons (fun H1 x1 => ha H1 (x0.trans x1)) (eva_cons (fun H1 x1 => hb H1 (x0.trans x1)) eva_nil)) fun vs H1 x1 k1 r Q q => by
    obtain ⟨u, r1, rfl, hu, u2, r2, rfl, h2, e⟩ := r
    cases e
    obtain ⟨p, rfl, Ak⟩ := ask_of k1 hu h2 O hR hz
    exact ⟨rfl, R, m, p, _, B, es, rfl, rfl, Ak, fun D H' k' A => q _ H' A.xt k' ⟨D, rfl, A.pull x1⟩⟩) H0 (.refl _) k0 Q fun v H2 x2 k2 ⟨D, e, A⟩ => q v H2 x2 k2 ⟨D, e, A.pull x0⟩
/-! keywords: the run ahead of the pair -/
theorem ev_wdK (hb : Ev R n k tb σ H (rP K R es)) (ha : Ev R k m ta σ H (pP K R CP CS CR B.fS B.fR)) (O : B.Ok) (hR : B.Run Sd.init es) (hz : es.length ≤ 500) : Ev R n m (tCallK0 2 (SpWd R.T K CP CS CR) (fun vs zs => vs ++ zs.reverse) E0 (tCons tb (tCons ta tNil))) σ H (dP K R (· = (B.walk Sd.init es).d)) := fun H1 x1 k1 Q q =>
  (eva_cons hb (eva_cons ha eva_nil)) H1 x1 k1 _ fun vs H2 x2 k2 r => by
    obtain ⟨u, r1, rfl, hu, u2, r2, rfl, h2, e⟩ := r
    cases e
    obtain ⟨p, rfl, Ak⟩ := ask_of k2 h2 hu O hR hz
    exact ⟨rfl, rfl, R, m, p, _, B, es, rfl, rfl, Ak, fun z H' x' k' hd => q z H' (x2.trans x') k' ⟨_, hd, rfl⟩⟩
theorem ev_dlK (hb : Ev R n k tb σ H (rP K R es)) (ha : Ev R k m ta σ H (pP K R CP CS CR B.fS B.fR)) (O : B.Ok) (hR : B.Run Sd.init es) (hz : es.length ≤ 500) : Ev R n m (tCallK0 2 (SpDl R.T K CP CS CR) (fun vs zs => vs ++ zs.reverse) E0 (tCons tb (tCons ta tNil))) σ H (dP K R (· = .list (vals (B.outs Sd.init es)))) := fun H1 x1 k1 Q q =>
  (eva_cons hb (eva_cons ha eva_nil)) H1 x1 k1 _ fun vs H2 x2 k2 r => by
    obtain ⟨u, r1, rfl, hu, u2, r2, rfl, h2, e⟩ := r
    cases e
    obtain ⟨p, rfl, Ak⟩ := ask_of k2 h2 hu O hR hz
    exact ⟨rfl, rfl, R, m, p, _, B, es, rfl, rfl, Ak, fun D H' k' A => q _ H' (x2.trans A.xt) k' ⟨_, A.dq, rfl⟩⟩
theorem ev_poK (hb : Ev R n k tb σ H (rP K R es)) (ha : Ev R k m ta σ H (pP K R CP CS CR B.fS B.fR)) (O : B.Ok) (hR : B.Run Sd.init es) (hz : es.length ≤ 500) : Ev R n m (tCallK0 2 (SpPo R.T K CP CS CR) (fun vs zs => vs ++ zs.reverse) E0 (tCons tb (tCons ta tNil))) σ H (dP K R (· = .list ((B.deeds (B.walk Sd.init es)).map Evt.d))) := fun H1 x1 k1 Q q =>
  (eva_cons hb (eva_cons ha eva_nil)) H1 x1 k1 _ fun vs H2 x2 k2 r => by
    obtain ⟨u, r1, rfl, hu, u2, r2, rfl, h2, e⟩ := r
    cases e
    obtain ⟨p, rfl, Ak⟩ := ask_of k2 h2 hu O hR hz
    exact ⟨rfl, rfl, R, m, p, _, B, es, rfl, rfl, Ak, fun D H' k' A => q _ H' (x2.trans A.xt) k' ⟨_, A.dq, rfl⟩⟩
theorem ev_aD (h : Ev R n m te σ H (aP K R H0 ds)) : Ev R n m te σ H (dP K R (· = .list ds)) := h.imp fun v H' _ ⟨D, e, A⟩ => ⟨_, by rw [e]; exact A.dq, rfl⟩
/-! ### what is compared -/
theorem lay_stand {x : Sd} (W : B.Wf x) : Lay 6 x.d := (lay_tup (k := 1) fun d hd => by
  simp only [List.mem_cons, List.mem_nil_iff, or_false] at hd
  rcases hd with rfl | rfl | rfl | rfl
  · exact lay_int
  · exact lay_int
  · exact lay_tup (k := 0) fun d hd => lay_below (W.f d hd)
  · exact lay_tup (k := 0) fun d hd => lay_below (W.g d hd)).mono (by decide)
theorem lay_deeds {l : List Evt} : Lay 6 (.list (l.map Evt.d)) := (lay_lst (k := 1) fun d hd => by
  obtain ⟨e, _, rfl⟩ := List.mem_map.mp hd
  exact lay_evt).mono (by decide)
theorem imm_deeds {l : List Evt} : immAll (l.map Evt.d) = true := immAll_mem fun d hd => by
  obtain ⟨e, _, rfl⟩ := List.mem_map.mp hd
  exact imm_evt
theorem eqvL_refl {ds : List PyData} (h : immAll ds = true) : PyData.eqv (.list ds) (.list ds) = true := by
  have e := eqv_refl (d := .tuple ds) (by simpa [imm] using h)
  simpa [PyData.eqv] using e
theorem Tb.Ok.gift_lay (O : B.Ok) {y : Sd} {e : Evt} (W : B.Wf y) (C : B.Can y e) : Lay 0 (B.gift y e) := by
  cases e with
  | passF =>
    obtain ⟨_, _, _, h2, _⟩ := gifts_at (O.gb' W.b) (below_inv (W.f _ (head_of C))).2
    exact lay_nonBelow h2
  | _ => exact lay_non
theorem Tb.Ok.outs_lay (O : B.Ok) : ∀ {es : List Evt} {y : Sd}, B.Wf y → B.Run y es → ∀ d ∈ B.outs y es, Lay 0 d
  | [], _, _, _, _, h => by cases h
  | a :: es, y, W, ⟨h1, h2⟩, d, h => by
    rcases List.mem_cons.mp h with z | z
    · rw [z]
      exact Tb.Ok.gift_lay O W h1
    · exact Tb.Ok.outs_lay O (es := es) (O.step W h1) h2 d z
theorem lay_vals (O : B.Ok) (hR : B.Run Sd.init es) : Lay 6 (.list (vals (B.outs Sd.init es))) := (lay_lst (k := 0) fun d hd => O.outs_lay O.init hR d (List.mem_filter.mp hd).1).mono (by decide)
theorem imm_vals (O : B.Ok) (hR : B.Run Sd.init es) : immAll (vals (B.outs Sd.init es)) = true := immAll_mem fun d hd => O.outs_imm O.init hR d (List.mem_filter.mp hd).1
theorem founds_mem : ∀ {os : List PyData} {i : Nat} {d : PyData}, d ∈ founds i os → ∃ (j : Nat) (o : PyData), d = .tuple [.int j, o] ∧ o ∈ os
  | [], _, _, h => by cases h
  | a :: os, i, d, h => by
    unfold founds at h
    split at h
    · obtain ⟨j, o, e, ho⟩ := founds_mem (os := os) h
      exact ⟨j, o, e, List.mem_cons_of_mem _ ho⟩
    · rcases List.mem_cons.mp h with z | z
      · exact ⟨i, a, z, List.mem_cons_self ..⟩
      · obtain ⟨j, o, e, ho⟩ := founds_mem (os := os) z
        exact ⟨j, o, e, List.mem_cons_of_mem _ ho⟩
theorem founds_len : ∀ {os : List PyData} {i : Nat}, (founds i os).length ≤ os.length
  | [], _ => Nat.le_refl _
  | a :: os, i => by
    have h := founds_len (os := os) (i := i + 1)
    unfold founds
    split
    · exact Nat.le_succ_of_le h
    · exact Nat.succ_le_succ h
/-- [value for at, value in found] -/
theorem ev_valsE {vs : List Nat} {a b : Nat} (h : Ev R n m ta σ H (dP K R (· = .list (founds 0 (B.outs Sd.init es))))) (O : B.Ok) (hR : B.Run Sd.init es) (hz : es.length ≤ 500)
    (hw : ∀ u w, wipe (((wipe σ vs).set a (some u)).set b (some w)) vs = wipe σ vs) (hb : ∀ u w, (((wipe σ vs).set a (some u)).set b (some w))[b]? = some (some w)) :
    Ev R n m (tLc (iList K ta) (gTup K 2 (gCons (gName a) (gCons (gName b) gNil))) tYes (tVar b) vs) σ H (dP K R (· = .list (vals (B.outs Sd.init es)))) :=
  (ev_lD (ds := vals (B.outs Sd.init es)) ((ev_lcL2 (l := founds 0 (B.outs Sd.init es)) (f := fun d => ats d 1) (c := fun _ => true) h (Nat.le_trans founds_len (by rw [B.outs_len]; omega)) (fun d hd _ => by
    obtain ⟨j, o, e, ho⟩ := founds_mem hd
    subst e
    exact O.outs_imm O.init hR o ho) fun d v H2 hd x2 hv => by
    obtain ⟨j, o, e, ho⟩ := founds_mem hd
    subst e
    obtain ⟨a1, xs, rfl, hT, hA⟩ := dq_tup hv
    obtain ⟨v1, v2, rfl, h1, h2⟩ := dqa2 hA
    exact ⟨((wipe σ vs).set a (some v1)).set b (some v2), fun Q2 hq => ⟨a1, _, rfl, hT, rfl, v1, _, rfl, v2, _, rfl, ⟨rfl, hq⟩⟩, hw v1 v2, evt_yes, fun _ => ev_dvar (hb v1 v2) h2⟩).imp fun v H' _ ⟨a, xs, ds, e, n1, h, d, e2⟩ => ⟨a, xs, ds, e, n1, h, d, by
      rw [show ds = _ from e2, ← founds_vals (i := 0)]
      rw [List.filter_eq_self.mpr (fun _ _ => rfl)]⟩))
theorem ev_wk {d : PyData} (ha : Ev R n k ta σ H (dP K R (· = B.raw))) (hb : Ev R k m tb σ H (dP K R (· = d))) (hd : d = .tuple (es.map Evt.d) ∨ d = .list (es.map Evt.d)) (O : B.Ok) (hR : B.Run Sd.init es) (hz : es.length ≤ 500) :
    Ev R n m (tCall (SpWk R.T K) [] E0 (tCons ta (tCons tb tNil))) σ H (dP K R (· = .tuple [(B.walk Sd.init es).d, .list (founds 0 (B.outs Sd.init es))])) :=
  ev_call (Ps := [(· = B.raw), (· = d)].map (dP K R)) (eva_d ha (eva_d hb eva_nil)) fun vs H1 x1 k1 r1 Q q => by
    obtain ⟨ds, g1, ⟨_, _, rfl, rfl, _, _, rfl, rfl, rfl⟩, g3⟩ := allR_D r1
    exact ⟨g3, R, m, B, es, _, rfl, k1, g1, hd, O, hR, hz, fun v H' x' k' hd => q v H' x' k' ⟨_, hd, rfl⟩⟩
theorem rP_dq (h : (rP K R es).r v H) : ∃ d, Dq K R.M H v d ∧ (d = .tuple (es.map Evt.d) ∨ d = .list (es.map Evt.d)) := RunAt.dq h
end
section
variable {P : Program} {w : World} {K : PySem.W.Frag} {mg : Str → Option Value} {base : Heap} {T : List (Addr × Str)} {CP CT CS CR : Addr}
/-! ### _law_run_right -/
theorem sc_law_run_right : FnScope ["raw", "made", "deeds", "stand", "found", "at", "value"] ["raw", "made", "deeds"] (defScope s_law_run_right) := ⟨rfl, rfl, rfl, by decide +kernel, rfl, by decide +kernel, by decide +kernel⟩
structure Rn (P : Program) (w : World) (K : PySem.W.Frag) (mg : Str → Option Value) (base : Heap) (T : List (Addr × Str)) (CP CS CR : Addr) : Prop where
  wd : Cal P w K mg base CX0 7 "walked" ["pair", "run"] (SpWd T K CP CS CR)
  dl : Cal P w K mg base CX0 7 "delivered" ["pair", "run"] (SpDl T K CP CS CR)
  po : Cal P w K mg base CX0 7 "possible" ["pair", "run"] (SpPo T K CP CS CR)
  wdK : KRun P w K mg base "walked" (SpWd T K CP CS CR)
  dlK : KRun P w K mg base "delivered" (SpDl T K CP CS CR)
  poK : KRun P w K mg base "possible" (SpPo T K CP CS CR)
  de : Cal P w K mg base CX0 1 "_law_deeds" ["raw", "stand"] (SpDe T K)
  wk : Cal P w K mg base CX0 3 "_law_walk" ["raw", "deeds"] (SpWk T K)
def SpRr (T : List (Addr × Str)) (K : PySem.W.Frag) (CP CS CR : Addr) : Sp := fun vs H Q _ => vs.length = 3 ∧ ∃ (R : Rs) (m : Nat) (v0 v1 v2 : V) (B : Tb) (es : List Evt), R.T = T ∧ vs = [v0, v1, v2] ∧ WE.Ok R m H ∧ Dq K R.M H v0 B.raw ∧ (pP K R CP CS CR B.fS B.fR).r v1 H ∧ (rP K R es).r v2 H ∧ B.Ok ∧ B.Run Sd.init es ∧ es.length ≤ 500 ∧
  ∀ H', Xt R H H' → WE.Ok R m H' → Q (.bl true) H'
theorem ok_law_run_right (D : Def1 K mg "_law_run_right" s_law_run_right) (L : Rn P w K mg base T CP CS CR) : Cal P w K mg base CX0 8 "_law_run_right" ["raw", "made", "deeds"] (SpRr T K CP CS CR) := by
  refine cal_of D sc_law_run_right (fun _ _ _ _ _ _ us hl => match us, hl with | [_, _, _], _ => rfl) (fun vs H Q E h => h.1) (fun f cdv A outer s0 H vs Q E hr hh => ?_)
  obtain ⟨_, R, m, v0, v1, v2, B, es, rfl, rfl, ok, h0, h1, h2, O, hR, hz, q⟩ := hh
  refine ⟨_, pss_cons (ps_asg (pe_cal L.wk hr (by decide) (by rfl) pass0 (pa_cons (pv 0) (pa_cons (pv 2) pa_nil))) (pg_tup rfl (pgs_cons (pg_name (i := 3) sc_law_run_right.nd rfl (.inl rfl)) (pgs_cons (pg_name (i := 4) sc_law_run_right.nd rfl (.inl rfl)) pgs_nil))))
    (pss_cons (ps_if (PW.pt (pw_or (pt_cmpR (op_neD hr.units) (pe_cal L.wd hr (by decide) (by rfl) pass0 (pa_cons (pv 1) (pa_cons (pv 2) pa_nil))) (pv 3) (nomark _))
        (pw_or1 (pt_cmpR (op_neD hr.units) (pe_cal L.dl hr (by decide) (by rfl) pass0 (pa_cons (pv 1) (pa_cons (pv 2) pa_nil))) (pe_lc (own := [("at", 5), ("value", 6)]) (g := gTup K 2 (gCons (gName 5) (gCons (gName 6) gNil))) (tt := tYes) (te := tVar 6) rfl sc_law_run_right.nd (pi_list (pv 4)) (blkOk_by (N := ["raw", "made", "deeds", "stand", "found", "at", "value"]) (sc := defScope s_law_run_right) (by decide +kernel))
          (fun _ _ _ _ _ => pg_tup rfl (pgs_cons (pg_name (i := 5) sc_law_run_right.nd rfl (Or.inl rfl)) (pgs_cons (pg_name (i := 6) sc_law_run_right.nd rfl (Or.inl rfl)) pgs_nil))) (fun _ _ _ _ _ => pts_nil) (fun _ _ _ _ _ => pv 6)) (nomark _))))) (pss_one ps_never) pss_nil)
    (pss_one (ps_ret (pe_cmpR (r := rEqD K) (op_eqD hr.units) (pe_cal L.po hr (by decide) (by rfl) pass0 (pa_cons (pv 1) (pa_cons (pv 2) pa_nil))) (pe_cal L.de hr (by decide) (by rfl) pass0 (pa_cons (pv 0) (pa_cons (pv 3) pa_nil))) (nomark _))))), ?_⟩
  obtain ⟨d2, g2, g3⟩ := rP_dq h2
  have W := O.walk O.init hR
  refine q_asgT (n := m) (m := m) ok (ev_wk (ev_dvar rfl h0) (ev_dvar rfl g2) g3 O hR hz) fun v3 H1 x1 k1 ⟨d3, hd3, e3⟩ => ?_
  subst e3
  obtain ⟨al, xs, rfl, hT, hA⟩ := dq_tup hd3
  obtain ⟨s1, s2, rfl, t1, t2⟩ := dqa2 hA
  refine ⟨al, _, rfl, hT, rfl, _, _, rfl, _, _, rfl, rfl, ?_⟩
  refine q_if (n := m) (m := m) k1 (evt_orF (evt_ne (ev_wd (ev_var rfl ((pP K R CP CS CR B.fS B.fR).mono _ _ _ x1 h1)) (ev_var rfl ((rP K R es).mono _ _ _ x1 h2)) O hR hz) (ev_dvar rfl t1) (lay_stand W) (lay_stand W) (eqv_refl (imm_stand W)))
    (evt_ne (ev_aD (ev_dl (ev_var rfl ((pP K R CP CS CR B.fS B.fR).mono _ _ _ x1 h1)) (ev_var rfl ((rP K R es).mono _ _ _ x1 h2)) O hR hz)) (ev_valsE (ev_dvar rfl t2) O hR hz (fun _ _ => rfl) (fun _ _ => rfl)) (lay_vals O hR) (lay_vals O hR) (eqvL_refl (imm_vals O hR)))) (fun z => nomatch z) fun _ H2 x2 k2 => ?_
  have x12 := x1.trans x2
  refine s_ret (n := m) (m := m) (P := bP R (· = true)) k2 ((ev_eqL (ev_aD (ev_po (ev_var rfl ((pP K R CP CS CR B.fS B.fR).mono _ _ _ x12 h1)) (ev_var rfl ((rP K R es).mono _ _ _ x12 h2)) O hR hz)) (ev_lD (ev_deE (ev_dvar rfl (h0.mono x12)) (ev_dvar rfl (t1.mono x2)) O W (sm_walk hz))) lay_deeds lay_deeds).imp fun v H' _ ⟨b, e, e2⟩ => ⟨b, e, by rw [e2]; exact eqvL_refl imm_deeds⟩) fun v H3 x3 k3 ⟨b, e, e2⟩ => ?_
  subst e e2
  exact q H3 (x12.trans x3) k3
end
end LW

set_option Elab.async false
set_option linter.all false
set_option maxRecDepth 100000
set_option maxHeartbeats 8000000
namespace LW
open PySem PySem.Spec PyProof.Rows L2 LamX NdefX WE WLam WQ
section
variable {K : PySem.W.Frag} {R : Rs} {σ : L2.St} {H H' H0 : Hp} {n m k : Nat} {ta tb te : TE} {CP CS CR : Addr} {v : V} {ds : List PyData} {sd rd : List (Str × PyData)}
/-! ### lists of things -/
/-- what stays when a list grows -/
def Stays (P : Rp R) : Prop := ∀ v (H : Hp) Da xs ys, H Da = some (.lst xs) → P.r v H → P.r v (upd H Da (.lst ys))
theorem stays_pP : Stays (pP K R CP CS CR sd rd) := fun v H Da xs ys h ⟨p, e, hP⟩ => by
  obtain ⟨dx, fs, s, r, h1, h2, h3, h4, h5, h6, h7⟩ := hP.ex
  have t : Tx H (upd H Da (.lst ys)) := .lst h
  have go : ∀ {C y F'}, InsD K C H y F' → InsD K C (upd H Da (.lst ys)) y F' := fun {C y F'} ⟨dx, fs, g1, g2⟩ => ⟨dx, fs, by rw [upd_ne (ne_of g1 h (fun z => nomatch z))]; exact g1, g2.tx t⟩
  exact ⟨p, e, hP.nm, dx, fs, s, r, by rw [upd_ne (ne_of h1 h (fun z => nomatch z))]; exact h1, h2, h3, h4, h5, go h6, go h7⟩
theorem allR_stays {Da : Addr} {xs ys : List V} (h : H Da = some (.lst xs)) : ∀ {Ps : List (Rp R)} {vs : List V}, (∀ P ∈ Ps, Stays P) → AllR Ps vs H → AllR Ps vs (upd H Da (.lst ys))
  | [], _, _, r => r
  | P :: Ps, _, hs, ⟨v, r, e, a, b⟩ => ⟨v, r, e, hs P (List.mem_cons_self ..) _ _ _ _ _ h a, allR_stays h (fun Q hQ => hs Q (List.mem_cons_of_mem _ hQ)) b⟩
theorem allR_snoc {P : Rp R} (h : P.r v H) : ∀ {Ps : List (Rp R)} {vs : List V}, AllR Ps vs H → AllR (Ps ++ [P]) (vs ++ [v]) H
  | [], vs, r => by
    have r : vs = [] := r
    subst r
    exact ⟨v, [], rfl, h, rfl⟩
  | Q :: Ps, _, ⟨u, r, e, a, b⟩ => by
    subst e
    exact ⟨u, r ++ [v], rfl, a, allR_snoc h b⟩
theorem allR_len : ∀ {Ps : List (Rp R)} {vs : List V}, AllR Ps vs H → vs.length = Ps.length
  | [], vs, r => by
    have r : vs = [] := r
    rw [r] <;> rfl
  | Q :: Ps, _, ⟨u, r, e, a, b⟩ => by
    subst e
    exact congrArg Nat.succ (allR_len b)
theorem allR_get : ∀ {Ps : List (Rp R)} {vs : List V} {i : Nat} {P : Rp R}, AllR Ps vs H → Ps[i]? = some P → ∃ v, vs[i]? = some v ∧ P.r v H
  | [], _, _, _, _, h => by simp at h
  | Q :: Ps, _, 0, P, ⟨u, r, e, a, b⟩, h => by
    subst e
    simp at h
    subst h
    exact ⟨u, rfl, a⟩
  | Q :: Ps, _, i + 1, P, ⟨u, r, e, a, b⟩, h => by
    subst e
    obtain ⟨v, h1, h2⟩ := allR_get (i := i) b (by simpa using h)
    exact ⟨v, by simpa using h1, h2⟩
theorem ev_ixO {Ps : List (Rp R)} {P : Rp R} {i : Nat} (ha : Ev R n k ta σ H (lR R Ps)) {z : Int} (hb : Ev R k m tb σ H (iP R (· = z))) (hz : z = ((i : Nat) : Int)) (hi : Ps[i]? = some P) : Ev R n m (tOp (rIx K) ta tb) σ H P :=
  ev_op ha hb fun x y H1 _ k ⟨a, xs, e, nn, h, r⟩ ⟨z', ez, hz'⟩ Q q => by
    have hz' : z' = z := hz'
    subst e ez hz' hz
    obtain ⟨v, h1, h2⟩ := allR_get r hi
    exact .inl ⟨a, xs, _, v, rfl, rfl, .inl (.inl h), atI_nat h1, q _ H1 (.refl _) k h2⟩
/-- [f(x) for x in xs], things -/
theorem ev_lcO {j : Nat} {vs : List Nat} {l : List PyData} {Ps : List (Rp R)} (h : Ev R n m ta σ H (lP K R (· = l))) (hl : l.length ≤ 1000) (hs : ∀ P ∈ Ps, Stays P) (hp : Ps.length = l.length) (hw : ∀ x, wipe ((wipe σ vs).set j (some x)) vs = wipe σ vs)
    (he : ∀ (i : Nat) (d : PyData) (P : Rp R) (v : V) (H2 : Hp), l[i]? = some d → Ps[i]? = some P → Xt R H H2 → Dq K R.M H2 v d → Ev R m m te ((wipe σ vs).set j (some v)) H2 P) :
    Ev R n m (tLc (iList K ta) (gName j) tYes te vs) σ H (lR R Ps) := fun H1 x z Q q =>
  h H1 x z _ fun v H2 x2 k2 ⟨a, xs, ds, e, nn, hT, hA, ed⟩ => by
    have ed : ds = l := ed
    subst e ed
    refine ⟨a, rfl, ⟨xs, .inl (.inl hT)⟩, fun Da hD => ?_⟩
    have nD := k2.fresh hD
    have lx := hA.length
    refine lc_it (walk_list (K := K) (a := a) (xs := xs)) (fun i H' => ∃ acc, H' Da = some (.lst acc) ∧ acc.length ≤ i ∧ Xt R H2 H' ∧ WE.Ok R m H' ∧ AllR (Ps.take i) acc H') ⟨[], upd_same, Nat.le_refl _, .new hD, k2.new hD, rfl⟩ (fun i H' _ ⟨_, _, _, x', _⟩ => x'.seqL (.inl (.inl hT)) nn) (fun i y H3 H4 hlt ⟨acc, e1, la, x3, k3, r3⟩ yy => ?_) (fun H3 ⟨acc, e1, la, x3, k3, r3⟩ => ?_)
    · obtain ⟨e4, e5⟩ := yy
      subst e4
      obtain ⟨d', q1, q2⟩ := (hA.mono x3).getV e5
      have hi : i < Ps.length := by omega
      have q1' : Ps[i]? = some Ps[i] := List.getElem?_eq_getElem hi
      refine And.intro (hw y) ?_
      refine (evt_yes (R := R) (m := m) (H := H4) (σ := (wipe σ vs).set j (some y))) H4 (.refl _) k3 _ fun b H5 x5 k5 e => ?_
      subst e
      have e1' : H5 Da = some (.lst acc) := x5.keep Da _ e1 nD (fun _ z => nomatch z)
      refine iteT (he i d' Ps[i] y H4 q1 q1' ((x.trans x2).trans x3) q2 H5 x5 k5 _ fun u H6 x6 k6 r6 => ?_)
      have e1'' : H6 Da = some (.lst acc) := x6.keep Da _ e1' nD (fun _ z => nomatch z)
      refine ⟨acc, e1'', Nat.lt_of_le_of_lt la (Nat.lt_of_lt_of_le (by omega) (show 2000 ≤ sizeLine by decide)), acc ++ [u], upd_same, by rw [List.length_append]; show acc.length + 1 ≤ _; omega, ((x3.trans x5).trans x6).own hD, ok_lst k6 e1'' nD, ?_⟩
      rw [List.take_succ, q1']
      refine allR_stays e1'' (fun P hP => ?_) (allR_snoc r6 (r3.mono (x5.trans x6)))
      rcases List.mem_append.mp hP with z | z
      · exact hs P (List.mem_of_mem_take z)
      · rw [List.mem_singleton.mp z]
        exact hs _ (List.getElem_mem hi)
    · rw [show xs.length = Ps.length by omega, List.take_length] at r3
      exact q _ H3 (x2.trans x3) k3 ⟨Da, acc, rfl, nD, e1, r3⟩
theorem ev_lR {Ps : List (Rp R)} {tl : TA} (h : EvA R n m tl σ H Ps) (hl : Ps.length ≤ 1000) : Ev R n m (tLst tl) σ H (lR R Ps) := ev_lst h hl fun p vs H1 _ np hp r => ⟨p, vs, rfl, np, hp, r⟩
theorem ev_lenT (h : Ev R n m te σ H (dP K R (· = .tuple ds))) : Ev R n m (tCB (fun vs H Q => ∃ (a : Addr) (xs : List V), vs = [V.ref a] ∧ (SqL K H a xs ∨ SqT K H a xs) ∧ Q (.int (xs.length : Int)) H) (tCons te tNil)) σ H (iP R (· = (ds.length : Int))) :=
  (ev_len h fun d e => ⟨ds, .inl e⟩).imp fun v H' _ ⟨z, e, d, es, e1, e2, e3⟩ => ⟨z, e, by
    subst e1
    rcases e2 with e2 | e2
    · cases e2
      exact e3
    · cases e2⟩
theorem ev_ixL {d : PyData} {i : Nat} {z : Int} (ha : Ev R n k ta σ H (dP K R (· = .list ds))) (hb : Ev R k m tb σ H (iP R (· = z))) (hz : z = ((i : Nat) : Int)) (hi : ds[i]? = some d) : Ev R n m (tOp (rIx K) ta tb) σ H (dP K R (· = d)) :=
  (ev_ix (p := (· = .list ds)) (pi := (· = z)) ha hb fun e y e1 e2 => ⟨ds, i, d, .inr e1, by rw [show y = z from e2]; exact hz, hi⟩).imp fun v H' _ ⟨e, he, d', ds', j', e1, e2, e3, e4⟩ => ⟨e, he, by
    have e1 : d' = .list ds := e1
    subst e1
    rcases e3 with e3 | e3
    · cases e3
    · cases e3
      have e2 : ((j' : Nat) : Int) = z := e2
      have ej : j' = i := by omega
      rw [ej, hi] at e4
      exact (Option.some.inj e4).symm⟩
theorem flat_one {d : PyData} : ∀ nn : Nat, (List.replicate nn [d]).flatten = List.replicate nn d
  | 0 => rfl
  | nn + 1 => by rw [List.replicate_succ, List.flatten_cons, flat_one nn, List.replicate_succ] <;> rfl
/-- (x,) * n -/
theorem ev_repN {d : PyData} {nn : Nat} (ha : Ev R n k ta σ H (dP K R (· = .tuple [d]))) (hb : Ev R k m tb σ H (iP R (· = ((nn : Nat) : Int)))) (h1 : 1 ≤ nn) (h2 : nn ≤ 1000) : Ev R n m (tOp (rRepA K) ta tb) σ H (dP K R (· = .tuple (List.replicate nn d))) :=
  (ev_repA ha hb (fun d e => ⟨_, e, by simp, by simp⟩) fun i e => by have e : i = ((nn : Nat) : Int) := e; omega).imp fun v H' _ ⟨e, he, ds, i, e1, e2, e3⟩ => ⟨e, he, by
    have e2 : i = ((nn : Nat) : Int) := e2
    cases e1
    rw [e3, e2]
    show PyData.tuple (List.replicate nn [d]).flatten = _
    rw [flat_one]⟩
end
/-! ### mute tables, pairs that share a program -/
def mutS (l : List PyData) : List PyData := List.replicate l.length .none
def Tb.duo (B : Tb) : Nat → Tb
  | 0 => B
  | 1 => { B with s' := mutS B.s' }
  | _ => { B with s := mutS B.s }
theorem mut_len {l : List PyData} : (mutS l).length = l.length := List.length_replicate
theorem mut_mem {l : List PyData} {d : PyData} (h : d ∈ mutS l) : d = .none := (List.mem_replicate.mp h).2
theorem mutS_ne {l : List PyData} (h : l ≠ []) : mutS l ≠ [] := fun z => h (List.length_eq_zero_iff.mp (by rw [← mut_len (l := l), z] <;> rfl))
theorem okR_mut {a b c : Int} {s t h g r : List PyData} (R : OkR a b c s t h g r) : OkR a b c (mutS s) t h g r := ⟨R.a1, R.b1, R.c1, mutS_ne R.ne, R.tl.trans mut_len.symm, R.hl.trans mut_len.symm, R.gl.trans mut_len.symm, R.rl.trans mut_len.symm, fun d hd => by rw [mut_mem hd]; rfl, fun d hd => by rw [mut_len]; exact R.t_ d hd, fun d hd => by rw [mut_len]; exact R.h_ d hd, R.g_, fun d hd => by rw [mut_len]; exact R.r_ d hd⟩
theorem okS_mut {a b c : Int} {s t h k r : List PyData} (S : OkS a b c s t h k r) : OkS a b c (mutS s) t h k r := ⟨S.a1, S.b1, S.c1, mutS_ne S.ne, S.tl.trans mut_len.symm, S.hl.trans mut_len.symm, S.kl.trans mut_len.symm, S.rl.trans mut_len.symm, fun d hd => by rw [mut_mem hd]; rfl, fun d hd => by rw [mut_len]; exact S.t_ d hd, fun d hd => by rw [mut_len]; exact S.h_ d hd, S.k0, fun d hd => by rw [mut_len]; exact S.k_ d hd, fun d hd => by rw [mut_len]; exact S.r_ d hd⟩
theorem Tb.Ok.duo {B : Tb} (O : B.Ok) (i : Nat) : (B.duo i).Ok := by
  match i with
  | 0 => exact O
  | 1 => exact ⟨O.S, okR_mut O.R, O.sz, O.zs, by show (mutS _).length ≤ _; rw [mut_len]; exact O.zr⟩
  | i + 2 => exact ⟨okS_mut O.S, O.R, O.sz, by show (mutS _).length ≤ _; rw [mut_len]; exact O.zs, O.zr⟩
theorem cntS {a b c : Int} {s t h k r : List PyData} : (("_value_count" : Str), PyData.int a) ∈ sndF a b c s t h k r ∧ (("_forward" : Str), PyData.int b) ∈ sndF a b c s t h k r ∧ (("_backward" : Str), PyData.int c) ∈ sndF a b c s t h k r := by simp [sndF]
theorem cntR {a b c : Int} {s t h k r : List PyData} : (("_value_count" : Str), PyData.int a) ∈ rcvF a b c s t h k r ∧ (("_forward" : Str), PyData.int b) ∈ rcvF a b c s t h k r ∧ (("_backward" : Str), PyData.int c) ∈ rcvF a b c s t h k r := by simp [rcvF]
def mutD : PyData → PyData
  | .tuple (.tuple s :: rest) => .tuple (.tuple (mutS s) :: rest)
  | d => d
section
variable {P : Program} {w : World} {K : PySem.W.Frag} {mg : Str → Option Value} {base : Heap} {T : List (Addr × Str)} {CP CT CS CR : Addr}
/-! ### _law_duos -/
theorem sc_law_duos : FnScope ["raw", "made", "mute", "raws", "beside", "side", "one"] ["raw", "made"] (defScope s_law_duos) := ⟨rfl, rfl, rfl, by decide +kernel, rfl, by decide +kernel, by decide +kernel⟩
abbrev Tb.raws (B : Tb) : List PyData := [B.raw, (B.duo 1).raw, (B.duo 2).raw]
abbrev Tb.pairs (B : Tb) (K : PySem.W.Frag) (R : Rs) (CP CS CR : Addr) : List (Rp R) := [pP K R CP CS CR B.fS B.fR, pP K R CP CS CR (B.duo 1).fS (B.duo 1).fR, pP K R CP CS CR (B.duo 2).fS (B.duo 2).fR]
def SpDu (T : List (Addr × Str)) (K : PySem.W.Frag) (CP CS CR : Addr) : Sp := fun vs H Q _ => vs.length = 2 ∧ ∃ (R : Rs) (m : Nat) (v0 v1 : V) (B : Tb), R.T = T ∧ vs = [v0, v1] ∧ WE.Ok R m H ∧ Dq K R.M H v0 B.raw ∧ (pP K R CP CS CR B.fS B.fR).r v1 H ∧ B.Ok ∧
  ∀ v H', Xt R H H' → WE.Ok R m H' → (tR R [lP K R (· = B.raws), lR R (B.pairs K R CP CS CR)]).r v H' → Q v H'
theorem ok_law_duos (D : Def1 K mg "_law_duos" s_law_duos) (Bl : Bl mg) (N : PairC P w K mg base CP) (MP : MkP P w K mg base T CP CS CR) (C1 : Cal P w K mg base CX0 11 "_law_made" ["raw"] (SpMd T K CP CS CR)) : Cal P w K mg base CX0 12 "_law_duos" ["raw", "made"] (SpDu T K CP CS CR) := by
  refine cal_of D sc_law_duos (fun _ _ _ _ _ _ us hl => match us, hl with | [_, _], _ => rfl) (fun vs H Q E h => h.1) (fun f cdv A outer s0 H vs Q E hr hh => ?_)
  obtain ⟨_, R, m, v0, v1, B, rfl, rfl, ok, h0, h1, O, q⟩ := hh
  refine ⟨_, pss_cons (ps_setLc (i := 2) (own := [("side", 5)]) (g := gName 5) (tt := tYes) (te := tOp (rCatA K) (tTup (tCons (tOp (rRepA K) (tTup (tCons (tC .non) tNil)) (tCB (fun vs H Q => ∃ (a : Addr) (xs : List V), vs = [V.ref a] ∧ (SqL K H a xs ∨ SqT K H a xs) ∧ Q (.int (xs.length : Int)) H) (tCons (tOp (rIx K) (tVar 5) (tC (.int 0))) tNil))) tNil)) (tSl (rSlA K) (tVar 5) (tPart (tC (.int 1))) tNoPart)) (by rfl) sc_law_duos.nd rfl rfl (sw_true rfl rfl rfl (by decide +kernel)) (pi_tup (pe_slice sl_tupA (pv 0) (po_some pe_int) po_none)) (blkOk_by (N := ["raw", "made", "mute", "raws", "beside", "side", "one"]) (sc := defScope s_law_duos) (by decide +kernel))
      (fun _ _ _ _ _ => pg_name (i := 5) sc_law_duos.nd rfl (Or.inl rfl)) (fun _ _ _ _ _ => pts_nil) (fun _ _ _ _ _ => pe_op op_catA (pe_tup (pa_cons (pe_op op_repA (pe_tup (pa_cons pe_non pa_nil)) (pe_callB call_len_seq (by rfl) Bl.len PySem.boot_len (pa_cons (pe_ix (r := rIx K) ix_seq (pv 5) pe_int (fun _ _ => rfl)) pa_nil))) pa_nil)) (pe_slice sl_tupA (pv 5) (po_some pe_int) po_none)))
    (pss_cons (ps_set (i := 3) sc_law_duos.nd rfl (.inl rfl) (pe_lst (pa_cons (pv 0) (pa_cons (pe_tup (pa_cons (pe_ix (r := rIx K) ix_seq (pv 0) pe_int (fun _ _ => rfl)) (pa_cons (pe_ix (r := rIx K) ix_seq (pv 0) pe_int (fun _ _ => rfl)) (pa_cons (pe_ix (r := rIx K) ix_seq (pv 2) pe_int (fun _ _ => rfl)) pa_nil)))) (pa_cons (pe_tup (pa_cons (pe_ix (r := rIx K) ix_seq (pv 0) pe_int (fun _ _ => rfl)) (pa_cons (pe_ix (r := rIx K) ix_seq (pv 2) pe_int (fun _ _ => rfl)) (pa_cons (pe_ix (r := rIx K) ix_seq (pv 0) pe_int (fun _ _ => rfl)) pa_nil)))) pa_nil)))))
    (pss_cons (ps_setLc (i := 4) (own := [("one", 6)]) (g := gName 6) (tt := tYes) (te := tCall (SpMd R.T K CP CS CR) [] E0 (tCons (tVar 6) tNil)) (by rfl) sc_law_duos.nd rfl rfl (sw_true rfl rfl rfl (by decide +kernel)) (pi_list (pv 3)) (blkOk_by (N := ["raw", "made", "mute", "raws", "beside", "side", "one"]) (sc := defScope s_law_duos) (by decide +kernel))
      (fun _ _ _ _ _ => pg_name (i := 6) sc_law_duos.nd rfl (Or.inl rfl)) (fun _ _ _ _ _ => pts_nil) (fun _ _ _ _ _ => pe_cal C1 hr (by decide) (by rfl) pass0 (pa_cons (pv 6) pa_nil)))
    (pss_one (ps_ret (pe_tup (pa_cons (pv 3) (pa_cons (pe_lst (pa_cons (pv 1) (pa_cons (pe_mkp MP hr (by decide) (by rfl) (pa_cons (pe_prp (pv 1) N.ci.cl N.p1 hr (by decide)) (pa_cons (pe_prp (pe_ix (r := rIx K) ix_seq (pv 4) pe_int (fun _ _ => rfl)) N.ci.cl N.p2 hr (by decide)) pa_nil)))
      (pa_cons (pe_mkp MP hr (by decide) (by rfl) (pa_cons (pe_prp (pe_ix (r := rIx K) ix_seq (pv 4) pe_int (fun _ _ => rfl)) N.ci.cl N.p1 hr (by decide)) (pa_cons (pe_prp (pv 1) N.ci.cl N.p2 hr (by decide)) pa_nil))) pa_nil)))) pa_nil))))))), ?_⟩
  have mute : Ev R m m _ _ H (lP K R (· = [(B.duo 2).dS, (B.duo 1).dR])) := (ev_lcT2 (K := K) (R := R) (n := m) (m := m) (σ := L2.start ["raw", "made", "mute", "raws", "beside", "side", "one"] [v0, v1]) (H := H) (ta := tSl (rSlA K) (tVar 0) (tPart (tC (.int 1))) tNoPart) (g := gName 5) (tt := tYes) (te := tOp (rCatA K) (tTup (tCons (tOp (rRepA K) (tTup (tCons (tC .non) tNil)) (tCB (fun vs H Q => ∃ (a : Addr) (xs : List V), vs = [V.ref a] ∧ (SqL K H a xs ∨ SqT K H a xs) ∧ Q (.int (xs.length : Int)) H) (tCons (tOp (rIx K) (tVar 5) (tC (.int 0))) tNil))) tNil)) (tSl (rSlA K) (tVar 5) (tPart (tC (.int 1))) tNoPart)) (vs := [5]) (l := [B.dS, B.dR]) (f := mutD) (c := fun _ => true) (ev_sltFromE (ev_dvar rfl h0) ev_int rfl) (by show 2 ≤ 100000; decide) (fun d hd _ => ?_) fun d v H2 hd x2 hv => ?_).imp fun v H' _ ⟨a, xs, ds, e, n1, h, d, e2⟩ => ⟨a, xs, ds, e, n1, h, d, e2⟩
  · refine q_asg (n := m) (m := m) ok mute fun v2 H1 x1 k1 r2 => ?_
    have hd2 := lP_dq r2
    have r0 : ∀ {i : Nat} {d : PyData} {σ : L2.St} {H' : Hp}, Xt R H H' → [szs B.a B.b B.c, B.dS, B.dR][i]? = some d → σ[0]? = some (some v0) → Ev R m m (tOp (rIx K) (tVar 0) (tC (.int (i : Nat)))) σ H' (dP K R (· = d)) := fun x hi hσ => ev_at hσ (h0.mono x) _ rfl hi
    refine q_asg (n := m) (m := m) (P := lP K R (· = B.raws)) k1 (ev_lLst B.raws (eva_d (ev_dvar rfl (h0.mono x1)) (eva_d (ev_tupK [szs B.a B.b B.c, B.dS, (B.duo 1).dR] (eva_d (r0 (i := 0) x1 rfl rfl) (eva_d (r0 (i := 1) x1 rfl rfl) (eva_d (ev_ixL (i := 1) (ev_dvar rfl hd2) ev_int rfl rfl) eva_nil))) (by show 3 ≤ 1000; decide))
      (eva_d (ev_tupK [szs B.a B.b B.c, (B.duo 2).dS, B.dR] (eva_d (r0 (i := 0) x1 rfl rfl) (eva_d (ev_ixL (i := 0) (ev_dvar rfl hd2) ev_int rfl rfl) (eva_d (r0 (i := 2) x1 rfl rfl) eva_nil))) (by show 3 ≤ 1000; decide)) eva_nil))) (by show 3 ≤ 1000; decide)) fun v3 H2 x2 k2 r3 => ?_
    have st : ∀ Q ∈ B.pairs K R CP CS CR, Stays Q := fun Q hQ => by
      simp only [Tb.pairs, List.mem_cons, List.mem_nil_iff, or_false] at hQ
      rcases hQ with rfl | rfl | rfl <;> exact stays_pP
    refine q_asg (n := m) (m := m) (P := lR R (B.pairs K R CP CS CR)) k2 (ev_lcO (l := B.raws) (ev_var rfl r3) (by show 3 ≤ 1000; decide) st rfl (fun _ => rfl) fun i d Q v H3 e1 e2 x3 hv => ?_) fun v4 H3 x3 k3 r4 => ?_
    · match i, e1, e2 with
      | 0, e1, e2 =>
        cases e1
        cases e2
        exact ev_mdE (ev_dvar rfl hv) O.S O.R
      | 1, e1, e2 =>
        cases e1
        cases e2
        exact ev_mdE (ev_dvar rfl hv) (O.duo 1).S (O.duo 1).R
      | 2, e1, e2 =>
        cases e1
        cases e2
        exact ev_mdE (ev_dvar rfl hv) (O.duo 2).S (O.duo 2).R
      | i + 3, e1, e2 => simp at e1
    · have x123 := (x1.trans x2).trans x3
      have mk : ∀ {σ : L2.St} {H' : Hp} {m : Nat}, Xt R H3 H' → σ[1]? = some (some v1) → Ev R m m (tVar 1) σ H' (pP K R CP CS CR B.fS B.fR) := fun x hσ => ev_var hσ ((pP K R CP CS CR B.fS B.fR).mono _ _ _ (x123.trans x) h1)
      refine s_ret (n := m) (m := m) (P := tR R [lP K R (· = B.raws), lR R (B.pairs K R CP CS CR)]) k3 (ev_tR (eva_cons (ev_var rfl ((lP K R (· = B.raws)).mono _ _ _ x3 r3)) (eva_cons (ev_lR (Ps := B.pairs K R CP CS CR) (eva_cons (mk (.refl _) rfl) (eva_cons (ev_mkP (a := B.a) (b := B.b) (c := B.c) (ev_prpS (mk (.refl _) rfl)) (ev_prpR (sd := (B.duo 1).fS) (ev_ixO (i := 1) (ev_var rfl r4) ev_int rfl rfl)) cntS cntR)
        (eva_cons (ev_mkP (a := B.a) (b := B.b) (c := B.c) (ev_prpS (rd := (B.duo 2).fR) (ev_ixO (i := 2) (ev_var rfl r4) ev_int rfl rfl)) (ev_prpR (mk (.refl _) rfl)) cntS cntR) eva_nil))) (by show 3 ≤ 1000; decide)) eva_nil)) (by show 2 ≤ 1000; decide)) fun v H4 x4 k4 r => q v H4 (x123.trans x4) k4 r
  · simp only [List.mem_cons, List.mem_nil_iff, or_false] at hd
    rcases hd with rfl | rfl
    · exact immS (O.duo 2).S
    · exact immR (O.duo 1).R
  · obtain ⟨s, t, h, k, r, rfl, z1, z2⟩ : ∃ s t h k r, d = tabs5 s t h k r ∧ 1 ≤ s.length ∧ s.length ≤ 64 := by
      simp only [List.mem_cons, List.mem_nil_iff, or_false] at hd
      rcases hd with rfl | rfl
      · exact ⟨_, _, _, _, _, rfl, List.length_pos_iff.mpr O.S.ne, O.zs⟩
      · exact ⟨_, _, _, _, _, rfl, List.length_pos_iff.mpr O.R.ne, O.zr⟩
    refine ⟨[some v0, some v1, none, none, none, some v, none], fun Q2 h => h, rfl, evt_yes, fun _ => ?_⟩
    exact ev_catAK (ds := [.tuple (mutS s)]) (es := [.tuple t, .tuple h, .tuple k, .tuple r]) (ev_tupK [.tuple (mutS s)] (eva_d (ev_repN (ev_tupK [.none] (eva_d ev_dn eva_nil) (by show 1 ≤ 1000; decide)) (ev_lenT (ev_at rfl hv 0 rfl rfl)) z1 (by omega)) eva_nil) (by show 1 ≤ 1000; decide)) (ev_sltFromE (ev_dvar rfl hv) ev_int rfl) (by show 1 ≤ 100000; decide) (by show 4 ≤ 100000; decide) rfl
end
end LW

set_option Elab.async false
set_option linter.all false
set_option maxRecDepth 100000
set_option maxHeartbeats 8000000
namespace LW
open PySem PySem.Spec PyProof.Rows L2 LamX NdefX WE WLam WQ
section
variable {K : PySem.W.Frag} {R : Rs} {σ : L2.St} {H H' H0 : Hp} {n m k l : Nat} {ta tb tc te : TE} {CP CS CR : Addr} {v : V} {ds es : List PyData} {d : PyData} {Dn : Ends} {tz tu : TS} {g : TG} {B : Tb}
/-- xs[:n], a new list -/
theorem ev_slToA {z : Int} {th : TE} (h : Ev R n k te σ H (lP K R (· = ds))) (hz : Ev R k m th σ H (iP R (· = z))) (he : WE.cutD ds none (some z) = es) (hi : immAll es = true) : Ev R n m (tSl (rSlL K) te tNoPart (tPart th)) σ H (aP K R H es) := fun H1 x1 k1 Q q =>
  h H1 x1 k1 _ fun v H2 x2 k2 ⟨a, xs, ds', e, hn, hh, d, p⟩ => hz H2 (x1.trans x2) k2 _ fun u H3 x3 k3 ⟨z', ez, e2⟩ => by
    have p : ds' = ds := p
    have e2 : z' = z := e2
    subst e ez e2 p
    refine ⟨z', rfl, a, xs, rfl, .inl (.inl (x3.keep a _ hh hn (fun _ z => nomatch z))), fun p hp => ?_⟩
    have xn : Xt R H3 (upd H3 p (.lst (cutV xs none (some z')))) := .new hp
    have x13 := (x1.trans x2).trans x3
    refine q _ _ ((x2.trans x3).trans xn) (k3.new hp) ⟨p, rfl, x13.mon _ hp, x13.trans xn, k3.fresh hp, hi, _, upd_same, ?_⟩
    rw [← he]
    exact (cut_data (d.mono x3)).mono xn
theorem ev_neg1 : Ev R n n (tUn (rU fun i => .int (-i)) (tC (.int 1))) σ H (iP R (· = -1)) := ev_un (ev_int (i := 1)) fun x H1 _ k ⟨i, e, hi⟩ Q q => ⟨i, e, q _ H1 (.refl _) k ⟨-i, rfl, by rw [show i = 1 from hi]⟩⟩
theorem cut_neg : WE.cutD ds none (some (-1)) = ds.take (ds.length - 1) := by
  unfold WE.cutD HT.sIx
  simp only [List.drop_zero, Nat.sub_zero]
  rw [if_pos (by decide)]
  congr 1
  omega
theorem cut_snoc : WE.cutD (ds ++ [d]) none (some (-1)) = ds := by
  rw [cut_neg, List.length_append]
  show (ds ++ [d]).take (ds.length + 1 - 1) = ds
  rw [Nat.add_sub_cancel, List.take_left']
  rfl
theorem cut_16 : WE.cutD ds none (some 16) = ds.take 16 := by
  unfold WE.cutD HT.sIx
  simp only [List.drop_zero, Nat.sub_zero]
  rw [if_neg (by decide)]
  show ds.take (min 16 ds.length) = ds.take 16
  by_cases h : ds.length ≤ 16
  · rw [Nat.min_eq_right h, List.take_length, List.take_of_length_le h]
  · rw [Nat.min_eq_left (by omega)]
theorem q_forR {Ps : List (Rp R)} (kk : WE.Ok R n H) (h : Ev R n m ta σ H (tR R Ps))
    (z : ∀ (H1 : Hp), Xt R H H1 → WE.Ok R m H1 → ∃ Pv : Nat → L2.St → Hp → Prop, Pv 0 σ H1 ∧ (∀ i σ' H', Pv i σ' H' → Xt R H1 H') ∧
      (∀ (i : Nat) (P : Rp R) (v : V) (σ' : L2.St) (H' : Hp), Ps[i]? = some P → Pv i σ' H' → P.r v H' → g v σ' H' fun σ2 H2 => tu { Dn with nx := Pv (i + 1), ct := Pv (i + 1), bk := tz Dn } σ2 H2) ∧
      ∀ σ' H', Pv Ps.length σ' H' → tz Dn σ' H') : tSeq (tFor (iTup K ta) g tu) tz Dn σ H := by
  refine h H (.refl _) kk _ fun v H1 x1 k1 ⟨a, xs, e, hT, hA⟩ => ?_
  subst e
  obtain ⟨Pv, z0, z1, z2, z3⟩ := z H1 x1 k1
  have hl := allR_len hA
  refine ⟨a, rfl, ⟨xs, .inl (.inl hT)⟩, for_it (D := { Dn with nx := tz Dn }) (walk_tup (K := K) (a := a) (xs := xs)) Pv z0 (fun i σ' H' _ q => (z1 i σ' H' q).seqT (.inl (.inl hT))) (fun i y σ' H' H'' hi q yy => ?_) (fun σ' H' q => z3 σ' H' (by rw [← hl]; exact q))⟩
  obtain ⟨e1, e2⟩ := yy
  subst e1
  have hi' : i < Ps.length := by omega
  have e3 : Ps[i]? = some Ps[i] := List.getElem?_eq_getElem hi'
  obtain ⟨u, q1, q2⟩ := allR_get (hA.mono (z1 i σ' H'' q)) e3
  rw [e2] at q1
  cases (Option.some.inj q1)
  exact z2 i _ y σ' H'' e3 q q2
theorem q_forLst (kk : WE.Ok R n H) (h : Ev R n m ta σ H (aP K R H ds))
    (z : ∀ (Da : Addr) (H1 : Hp) (xs : List V), WE.Ok R m H1 → AccAt K R H Da ds H1 → H1 Da = some (.lst xs) → DqAll K R.M H1 xs ds → ∃ Pv : Nat → L2.St → Hp → Prop, Pv 0 σ H1 ∧ (∀ i σ' H', Pv i σ' H' → H' Da = some (.lst xs)) ∧
      (∀ (i : Nat) (v : V) (σ' : L2.St) (H' : Hp), xs[i]? = some v → Pv i σ' H' → g v σ' H' fun σ2 H2 => tu { Dn with nx := Pv (i + 1), ct := Pv (i + 1), bk := tz Dn } σ2 H2) ∧
      ∀ σ' H', Pv ds.length σ' H' → tz Dn σ' H') : tSeq (tFor (iList K ta) g tu) tz Dn σ H := by
  refine h H (.refl _) kk _ fun v H1 x1 k1 ⟨a, e, A⟩ => ?_
  subst e
  obtain ⟨xs, hT, hA⟩ := A.ex
  obtain ⟨Pv, z0, z1, z2, z3⟩ := z a H1 xs k1 A hT hA
  have hl := hA.length
  refine ⟨a, rfl, ⟨xs, .inl (.inl hT)⟩, for_it (D := { Dn with nx := tz Dn }) (walk_list (K := K) (a := a) (xs := xs)) Pv z0 (fun i σ' H' _ q => .inl (.inl (z1 i σ' H' q))) (fun i y σ' H' H'' hi q yy => ?_) (fun σ' H' q => z3 σ' H' (by rw [← hl]; exact q))⟩
  obtain ⟨e1, e2⟩ := yy
  subst e1
  exact z2 i y σ' H'' e2 q
/-- xs.append(x), other lists stay -/
theorem q_appX {i : Nat} {Da : Addr} (kk : WE.Ok R n H) (A : AccAt K R H0 Da es H) (hi : σ[i]? = some (some (.ref Da))) (h : Ev R n m te σ H (dP K R (· = d))) (hd : imm d = true) (hl : es.length ≤ 10000)
    (q : ∀ H', WE.Ok R m H' → AccAt K R H0 Da (es ++ [d]) H' → Tx H H' → (∀ b ys, b ≠ Da → ¬ R.M b → H b = some (.lst ys) → H' b = some (.lst ys)) → tz Dn σ H') : tSeq (tDrop (tBM K "list" rAppend (tVar i) (tCons te tNil))) tz Dn σ H := by
  obtain ⟨acc, h1, h2⟩ := A.ex
  refine ⟨_, hi, .inl ⟨rfl, _, .of h1⟩, ?_⟩
  refine h H (.refl _) kk _ fun v H2 x2 k2 ⟨d', hd', hpd⟩ => ?_
  have hpd : d' = d := hpd
  subst hpd
  have h3 : H2 Da = some (.lst acc) := x2.keep Da _ h1 A.nm (fun _ z => nomatch z)
  have t : Tx H2 (upd H2 Da (.lst (acc ++ [v]))) := .lst h3
  refine ⟨Da, acc, v, rfl, rfl, h3, by rw [h2.length]; exact Nat.lt_of_le_of_lt hl (by decide), ?_⟩
  refine q _ (ok_lst k2 h3 A.nm) ⟨A.new, (A.xt.trans x2).own A.new, A.nm, immAll_mem fun e he => ?_, acc ++ [v], upd_same, (h2.imm (x2.tx.trans t) A.im).append (.cons (hd'.imm t hd) .nil)⟩ (x2.tx.trans t) fun b ys hb nb hl => ?_
  · rcases List.mem_append.mp he with z | z
    · exact immAll_get A.im e z
    · rw [List.mem_singleton.mp z]
      exact hd
  · rw [upd_ne hb]
    exact x2.keep b _ hl nb (fun _ z => nomatch z)
/-! ### runs of a pair -/
def runB (K : PySem.W.Frag) (R : Rs) (B : Tb) : Rp R := ⟨fun v H => ∃ es, B.Run Sd.init es ∧ es.length ≤ 60 ∧ RunAt K R.M H v es, fun _ _ _ x ⟨es, h1, h2, h⟩ => ⟨es, h1, h2, h.mono x⟩⟩
def ldP (K : PySem.W.Frag) (R : Rs) (H0 : Hp) (B : Tb) : Rp R := ⟨fun v H => ∃ es D, v = .ref D ∧ B.Run Sd.init es ∧ es.length ≤ 60 ∧ AccAt K R H0 D (es.map Evt.d) H, fun _ _ _ x ⟨es, D, e, h1, h2, A⟩ => ⟨es, D, e, h1, h2, A.go x⟩⟩
theorem ev_ldB (h : Ev R n m te σ H (ldP K R H0 B)) : Ev R n m te σ H (runB K R B) := h.imp fun v H' _ ⟨es, D, e, h1, h2, A⟩ => ⟨es, h1, h2, by subst e; exact rP_acc A⟩
theorem ev_rr (h0 : Ev R n k ta σ H (dP K R (· = B.raw))) (h1 : Ev R k l tb σ H (pP K R CP CS CR B.fS B.fR)) (h2 : Ev R l m tc σ H (runB K R B)) (O : B.Ok) : Ev R n m (tCall (SpRr R.T K CP CS CR) [] E0 (tCons ta (tCons tb (tCons tc tNil)))) σ H (bP R (· = true)) :=
  ev_call (eva_cons h0 (eva_cons h1 (eva_cons h2 eva_nil))) fun vs H1 x1 k1 r Q q => by
    obtain ⟨v0, _, rfl, ⟨d, hd, ed⟩, v1, _, rfl, hp, v2, _, rfl, ⟨es, hR, hz, hr⟩, e⟩ := r
    have ed : d = B.raw := ed
    cases e
    subst ed
    exact ⟨rfl, R, m, v0, v1, v2, B, es, rfl, rfl, k1, hd, hp, hr, O, hR, by omega, fun H' x' k' => q _ H' x' k' ⟨true, rfl, rfl⟩⟩
theorem ev_duE (h0 : Ev R n k ta σ H (dP K R (· = B.raw))) (h1 : Ev R k m tb σ H (pP K R CP CS CR B.fS B.fR)) (O : B.Ok) : Ev R n m (tCall (SpDu R.T K CP CS CR) [] E0 (tCons ta (tCons tb tNil))) σ H (tR R [lP K R (· = B.raws), lR R (B.pairs K R CP CS CR)]) :=
  ev_call (eva_cons h0 (eva_cons h1 eva_nil)) fun vs H1 x1 k1 r Q q => by
    obtain ⟨v0, _, rfl, ⟨d, hd, ed⟩, v1, _, rfl, hp, e⟩ := r
    have ed : d = B.raw := ed
    cases e
    subst ed
    exact ⟨rfl, R, m, v0, v1, B, rfl, rfl, k1, hd, hp, O, fun v H' x' k' r => q v H' x' k' r⟩
end
section
variable {K : PySem.W.Frag} {T : List (Addr × Str)} {p : Addr} {σ : L2.St} {H : Hp} {n m k : Nat} {ta tb : TE} {B : Tb}
theorem ev_dr {z : Int} {i : Nat} (hv : σ[i]? = some (some (.ref p))) (h1 : 1 ≤ z) (h2 : z ≤ 61) (hk : m + 1 ≤ n) : Ev (RP T p) n m (tCall (SpDr T) [] E0 (tCons (tVar i) (tCons (tC (.int z)) tNil))) σ H (iP (RP T p) fun d => 0 ≤ d ∧ d ≤ 60) :=
  (ev_draw (pi := (· = z)) hv (ev_int.cost hk) fun i e => by have e : i = z := e; omega).imp fun v H' _ ⟨d, e, y, e2, d0, d1⟩ => ⟨d, e, d0, by have e2 : y = z := e2; omega⟩
theorem ev_ldE {i : Nat} (hv : σ[i]? = some (some (.ref p))) (ha : Ev (RP T p) n k ta σ H (dP K (RP T p) (· = B.raw))) (hb : Ev (RP T p) k (m + 200) tb σ H (iP (RP T p) fun z => 0 ≤ z ∧ z ≤ 60)) (O : B.Ok) : Ev (RP T p) n m (tCall (SpLd T K) [] E0 (tCons (tVar i) (tCons ta (tCons tb tNil)))) σ H (ldP K (RP T p) H B) := fun H0 x0 k0 Q q =>
  (ev_call (P := ldP K (RP T p) H0 B) (eva_cons (ev_var (P := vP _ (.ref p)) hv rfl) (eva_cons (ha.at x0) (eva_cons (hb.at x0) eva_nil))) fun vs H1 x1 k1 r Q q => by
    obtain ⟨_, _, rfl, e1, v1, _, rfl, ⟨d1, hd1, ed⟩, v2, _, rfl, ⟨z, ez, z0, z1⟩, e⟩ := r
    have ed : d1 = B.raw := ed
    cases e
    cases e1
    subst ed ez
    obtain ⟨nn, rfl⟩ : ∃ nn : Nat, z = (nn : Int) := ⟨z.toNat, by omega⟩
    exact ⟨rfl, p, m, v1, B, nn, rfl, k1, hd1, O, by omega, fun es D H' hl hR k' A => q _ H' A.xt k' ⟨es, D, rfl, hR, by omega, A.pull x1⟩⟩) H0 (.refl _) k0 Q fun v H2 x2 k2 ⟨es, D, e, hR, hl, A⟩ => q v H2 x2 k2 ⟨es, D, e, hR, hl, A.pull x0⟩
end
end LW

set_option Elab.async false
set_option linter.all false
set_option maxRecDepth 100000
set_option maxHeartbeats 8000000
namespace LW
open PySem PySem.Spec PyProof.Rows L2 LamX NdefX WE WLam WQ
section
variable {P : Program} {w : World} {K : PySem.W.Frag} {mg : Str → Option Value} {base : Heap} {T : List (Addr × Str)} {CP CT CS CR fP : Addr}
/-! ### _law_right -/
theorem sc_law_right5 : FnScope ["purse", "raw", "made", "deeds", "stand", "found", "told", "some", "more", "grown", "deed", "raws", "duos", "at", "value"] ["purse"] (defScope s_law_right) := ⟨rfl, rfl, rfl, by decide +kernel, rfl, by decide +kernel, by decide +kernel⟩
structure R5 (P : Program) (w : World) (K : PySem.W.Frag) (mg : Str → Option Value) (base : Heap) (T : List (Addr × Str)) (CP CS CR fP : Addr) : Prop where
  b : Bl mg
  rn : Rn P w K mg base T CP CS CR
  raw : Cal P w K mg base CX0 6 "_law_raw" ["purse"] (SpRaw T K)
  made : Cal P w K mg base CX0 11 "_law_made" ["raw"] (SpMd T K CP CS CR)
  draw : Cal P w K mg base CX0 2 "_law_draw" ["purse", "out_of"] (SpDr T)
  led : Cal P w K mg base CX0 3 "_law_led" ["purse", "raw", "many"] (SpLd T K)
  rr : Cal P w K mg base CX0 8 "_law_run_right" ["raw", "made", "deeds"] (SpRr T K CP CS CR)
  du : Cal P w K mg base CX0 12 "_law_duos" ["raw", "made"] (SpDu T K CP CS CR)
  np : PairC P w K mg base CP
  ep : EqC P w K mg base 4 CP fP (SpEP T K CP CS CR)
abbrev SpRt5 (T : List (Addr × Str)) (K : PySem.W.Frag) : Sp := SpP T K 0 60000 (fun ds => ds = []) (fun _ d => d = .bool true)
theorem ok_law_right5 (D : Def1 K mg "_law_right" s_law_right) (L : R5 P w K mg base T CP CS CR fP) : Cal P w K mg base CX0 13 "_law_right" ["purse"] (SpRt5 T K) := by
  refine cal_of D sc_law_right5 (fun _ _ _ _ _ _ us hl => match us, hl with | [_], _ => rfl) (fun vs H Q E h => h.1) (fun f cdv A outer s0 H vs Q E hr h' => ?_)
  obtain ⟨_, p, kk, us, ds, rfl, ok, hd, rfl, fin0⟩ := h'
  have := dqa0 hd
  subst this
  have N := L.np
  have Bl := L.b
  refine ⟨_, pss_cons (ps_set (i := 1) sc_law_right5.nd rfl (by first | exact .inl rfl | exact .inr rfl) (pe_cal L.raw hr (by decide) (by rfl) pass0 (pa_cons (pv 0) pa_nil)))
    (pss_cons (ps_par (i := 2) (j := 3) rfl sc_law_right5.nd rfl rfl (by decide) rfl rfl (pa_cons (pe_cal L.made hr (by decide) (by rfl) pass0 (pa_cons (pv 1) pa_nil)) (pa_cons (pe_cal L.led hr (by decide) (by rfl) pass0 (pa_cons (pv 0) (pa_cons (pv 1) (pa_cons (pe_cal L.draw hr (by decide) (by rfl) pass0 (pa_cons (pv 0) (pa_cons pe_int pa_nil))) pa_nil)))) pa_nil)) (by rfl))
    (pss_cons (ps_asg (pe_cal L.rn.wk hr (by decide) (by rfl) pass0 (pa_cons (pv 1) (pa_cons (pv 3) pa_nil))) (pg_tup rfl (pgs_cons (pg_name (i := 4) sc_law_right5.nd rfl (by first | exact .inl rfl | exact .inr rfl)) (pgs_cons (pg_name (i := 5) sc_law_right5.nd rfl (by first | exact .inl rfl | exact .inr rfl)) pgs_nil))))
    (pss_cons (ps_if (PW.pt (pw_or (pt_cmpR (r := rNeD K) (op_neD hr.units) (pe_cal L.rn.wd hr (by decide) (by rfl) pass0 (pa_cons (pv 2) (pa_cons (pv 3) pa_nil))) (pv 4) (nomark _))
        (pw_or1 (pt_cmpR (r := rNeD K) (op_neD hr.units) (pe_run L.rn.wdK hr (by decide) (by rfl) (pk_cons (pe_callTy call_tuple_of (by rfl) Bl.tuple (by decide +kernel) (pa_cons (pv 3) pa_nil)) (pk_cons (pv 2) pk_nil))) (pv 4) (nomark _))))) (pss_one ps_never) pss_nil)
    (pss_cons (ps_set (i := 6) sc_law_right5.nd rfl (by first | exact .inl rfl | exact .inr rfl) (pe_cal L.rn.dl hr (by decide) (by rfl) pass0 (pa_cons (pv 2) (pa_cons (pv 3) pa_nil))))
    (pss_cons (ps_if (PW.pt (pw_or (pt_cmpR (r := rNeD K) (op_neD hr.units) (pv 6) (pe_lc (own := [("at", 13), ("value", 14)]) (g := gTup K 2 (gCons (gName 13) (gCons (gName 14) gNil))) (tt := tYes) (te := tVar 14) rfl sc_law_right5.nd (pi_list (pv 5)) (blkOk_by (N := ["purse", "raw", "made", "deeds", "stand", "found", "told", "some", "more", "grown", "deed", "raws", "duos", "at", "value"]) (sc := defScope s_law_right) (by decide +kernel))
          (fun _ _ _ _ _ => pg_tup rfl (pgs_cons (pg_name (i := 13) sc_law_right5.nd rfl (Or.inl rfl)) (pgs_cons (pg_name (i := 14) sc_law_right5.nd rfl (Or.inl rfl)) pgs_nil))) (fun _ _ _ _ _ => pts_nil) (fun _ _ _ _ _ => pv 14)) (nomark _))
        (pw_or1 (pt_cmpR (r := rNeD K) (op_neD hr.units) (pe_run L.rn.dlK hr (by decide) (by rfl) (pk_cons (pv 3) (pk_cons (pv 2) pk_nil))) (pv 6) (nomark _))))) (pss_one ps_never) pss_nil)
    (pss_cons (ps_expr (pe_bm PySem.F.plainAttrs_list PySem.F.slot_list_append PySem.F.type_list_append mt_append (pv 6) (pa_cons pe_non pa_nil)))
    (pss_cons (ps_set (i := 7) sc_law_right5.nd rfl (by first | exact .inl rfl | exact .inr rfl) (pe_cal L.rn.po hr (by decide) (by rfl) pass0 (pa_cons (pv 2) (pa_cons (pv 3) pa_nil))))
    (pss_cons (ps_if (PW.pt (pw_or (pt_cmpR (r := rNeD K) (op_neD hr.units) (pv 7) (pe_cal L.rn.de hr (by decide) (by rfl) pass0 (pa_cons (pv 1) (pa_cons (pv 4) pa_nil))) (nomark _))
        (pw_or1 (pt_cmpR (r := rNeD K) (op_neD hr.units) (pe_run L.rn.poK hr (by decide) (by rfl) (pk_cons (pv 3) (pk_cons (pv 2) pk_nil))) (pv 7) (nomark _))))) (pss_one ps_never) pss_nil)
    (pss_cons (ps_expr (pe_bm PySem.F.plainAttrs_list PySem.F.slot_list_append PySem.F.type_list_append mt_append (pv 7) (pa_cons pe_non pa_nil)))
    (pss_cons (ps_if (PW.pt (pw_or (pt_cmpR (r := rNeD K) (op_neD hr.units) (pe_cal L.rn.po hr (by decide) (by rfl) pass0 (pa_cons (pv 2) (pa_cons (pv 3) pa_nil))) (pe_cal L.rn.de hr (by decide) (by rfl) pass0 (pa_cons (pv 1) (pa_cons (pv 4) pa_nil))) (nomark _))
        (pw_or1 (pt_cmpR (r := rNeD K) (op_neD hr.units) (pe_cal L.rn.dl hr (by decide) (by rfl) pass0 (pa_cons (pv 2) (pa_cons (pe_callTy call_tuple_of (by rfl) Bl.tuple (by decide +kernel) (pa_cons (pv 3) pa_nil)) pa_nil))) (pe_slice sl_list (pv 6) po_none (po_some (pe_un un_neg pe_int))) (nomark _))))) (pss_one ps_never) pss_nil)
    (pss_cons (ps_for PassesOwn.never rfl (pi_tup (pe_tup (pa_cons (pe_slice sl_list (pv 3) po_none (po_some (pe_un un_neg pe_int))) (pa_cons (pe_cal L.led hr (by decide) (by rfl) pass0 (pa_cons (pv 0) (pa_cons (pv 1) (pa_cons (pe_cal L.draw hr (by decide) (by rfl) pass0 (pa_cons (pv 0) (pa_cons pe_int pa_nil))) pa_nil)))) (pa_cons (pv 3) pa_nil))))) (pg_name (i := 8) sc_law_right5.nd rfl (by first | exact .inl rfl | exact .inr rfl))
      (pss_one (ps_if (pt_not (pt_val (pe_cal L.rr hr (by decide) (by rfl) pass0 (pa_cons (pv 1) (pa_cons (pv 2) (pa_cons (pv 8) pa_nil)))))) (pss_one ps_never) pss_nil)))
    (pss_cons (ps_set (i := 9) sc_law_right5.nd rfl (by first | exact .inl rfl | exact .inr rfl) (pe_lst pa_nil))
    (pss_cons (ps_for PassesOwn.never rfl (pi_list (pe_slice sl_list (pv 3) po_none (po_some pe_int))) (pg_name (i := 10) sc_law_right5.nd rfl (by first | exact .inl rfl | exact .inr rfl))
      (pss_cons (ps_expr (pe_bm PySem.F.plainAttrs_list PySem.F.slot_list_append PySem.F.type_list_append mt_append (pv 9) (pa_cons (pv 10) pa_nil)))
      (pss_one (ps_if (PW.pt (pw_and (pt_cmpR op_ne (pe_op op_modN (pe_callB call_len_seq (by rfl) Bl.len PySem.boot_len (pa_cons (pv 9) pa_nil)) pe_int) pe_int (nomark _)) (pw_and1 (pt_not (pt_val (pe_cal L.rr hr (by decide) (by rfl) pass0 (pa_cons (pv 1) (pa_cons (pv 2) (pa_cons (pv 9) pa_nil))))))))) (pss_one ps_never) pss_nil))))
    (pss_cons (ps_asg (pe_cal L.du hr (by decide) (by rfl) pass0 (pa_cons (pv 1) (pa_cons (pv 2) pa_nil))) (pg_tup rfl (pgs_cons (pg_name (i := 11) sc_law_right5.nd rfl (by first | exact .inl rfl | exact .inr rfl)) (pgs_cons (pg_name (i := 12) sc_law_right5.nd rfl (by first | exact .inl rfl | exact .inr rfl)) pgs_nil))))
    (pss_cons (ps_for PassesOwn.never rfl (pi_tup (pe_tup (pa_cons pe_int (pa_cons pe_int (pa_cons pe_int (pa_cons pe_int (pa_cons pe_int pa_nil))))))) (pg_name (i := 13) sc_law_right5.nd rfl (by first | exact .inl rfl | exact .inr rfl))
      (pss_one (ps_if (pt_not (pt_val (pe_cal L.rr hr (by decide) (by rfl) pass0 (pa_cons (pe_ix (r := rIx K) ix_seq (pv 11) (pv 13) (fun _ _ => rfl)) (pa_cons (pe_ix (r := rIx K) ix_seq (pv 12) (pv 13) (fun _ _ => rfl)) (pa_cons (pe_cal L.led hr (by decide) (by rfl) pass0 (pa_cons (pv 0) (pa_cons (pe_ix (r := rIx K) ix_seq (pv 11) (pv 13) (fun _ _ => rfl)) (pa_cons (pe_cal L.draw hr (by decide) (by rfl) pass0 (pa_cons (pv 0) (pa_cons pe_int pa_nil))) pa_nil)))) pa_nil)))))) (pss_one ps_never) pss_nil)))
    (pss_one (ps_ret (pe_and (pe_cmpR (op_ownQ (L.ep.own (show 4 ≤ 12 by decide)) hr pass0) (pv 2) (pe_cal L.made hr (by decide) (by rfl) pass0 (pa_cons (pv 1) pa_nil)) (nomark _)) (pe_one (pe_cmpR (r := rEqD K) (op_eqD hr.units) (pe_cal L.rn.wd hr (by decide) (by rfl) pass0 (pa_cons (pv 2) (pa_cons (pv 3) pa_nil))) (pv 4) (nomark _))))))))))))))))))))), ?_⟩
  refine q_asg (m := kk + 10000) (P := dP K (RP T p) RawP) ok (show Ev (RP T p) (kk + 60000) (kk + 10000) (tCall (SpRaw T K) [] E0 (tCons (tVar 0) tNil)) _ H (dP K (RP T p) RawP) from (ev_callP (ps := []) (c := 50000) (post := fun _ d => RawP d) rfl eva_nil rfl (fun ds h => h)).imp fun v H' _ ⟨d, hd, _, _, e⟩ => ⟨d, hd, e⟩) fun v1 H1 x1 k1 ⟨d, hd1, hraw⟩ => ?_
  obtain ⟨a, b, c, S, G, rfl, sz, ⟨s, t, h, g, r, rfl, O1, z1⟩, ⟨s', t', h', g', r', rfl, O2, z2⟩⟩ := hraw
  obtain ⟨B, O, hd1⟩ : ∃ B : Tb, B.Ok ∧ Dq K (RP T p).M H1 v1 B.raw := ⟨⟨a, b, c, s, t, h, g, r, s', t', h', g', r'⟩, ⟨O1, O2, sz, z1, z2⟩, hd1⟩
  have rw_ : ∀ {σ : L2.St} {H' : Hp} {m : Nat}, Xt (RP T p) H1 H' → σ[1]? = some (some v1) → Ev (RP T p) m m (tVar 1) σ H' (dP K (RP T p) (· = B.raw)) := fun x hσ => ev_dvar hσ (hd1.mono x)
  refine q_par (n := kk + 10000) (m := kk + 9000) (P1 := pP K (RP T p) CP CS CR B.fS B.fR) (P2 := ldP K (RP T p) H1 B) k1 (eva_cons (ev_mdE (rw_ (.refl _) rfl) O.S O.R) (eva_cons (ev_ldE (k := kk + 10000) rfl (rw_ (.refl _) rfl) (ev_dr rfl (by decide) (by decide) (by omega)) O) eva_nil)) fun v2 v3 H2 x2 k2 hP ⟨es, D3, e3, hR, hz, A3⟩ => ?_
  subst e3
  have hz5 : es.length ≤ 500 := by omega
  have W := O.walk O.init hR
  have mk : ∀ {σ : L2.St} {H' : Hp} {m : Nat}, Xt (RP T p) H2 H' → σ[2]? = some (some v2) → Ev (RP T p) m m (tVar 2) σ H' (pP K (RP T p) CP CS CR B.fS B.fR) := fun x hσ => ev_var hσ ((pP K (RP T p) CP CS CR B.fS B.fR).mono _ _ _ x hP)
  have rn : ∀ {σ : L2.St} {H' : Hp} {m : Nat}, Xt (RP T p) H2 H' → σ[3]? = some (some (.ref D3)) → Ev (RP T p) m m (tVar 3) σ H' (rP K (RP T p) es) := fun x hσ => ev_var hσ ((rP K (RP T p) es).mono _ _ _ x (rP_acc A3))
  have rnT : ∀ {σ : L2.St} {H' : Hp} {m : Nat}, Xt (RP T p) H2 H' → σ[3]? = some (some (.ref D3)) → Ev (RP T p) m m (tCB (fun xs H Q => ∃ p ys, xs = [.ref p] ∧ ((SqL K H p ys ∧ ∀ l, H l = none → Q (.ref l) (upd H l (.tup ys))) ∨ (SqT K H p ys ∧ Q (.ref p) H))) (tCons (tVar 3) tNil)) σ H' (rP K (RP T p) es) := fun x hσ => (ev_tupleOf (ev_dvar hσ (A3.go x).dq) fun d e => ⟨_, .inr e⟩).imp fun v H' _ ⟨d, hd, ds, e1, e2⟩ => by
    subst e2
    rcases e1 with e1 | e1
    · cases e1
    · cases e1
      exact rP_t hd
  refine q_asgT (n := kk + 9000) (m := kk + 9000) k2 (ev_wk (rw_ x2 rfl) (ev_dvar rfl A3.dq) (.inr rfl) O hR hz5) fun v4 H3 x3 k3 ⟨d4, hd4, e4⟩ => ?_
  subst e4
  obtain ⟨al, xs, rfl, hT, hA⟩ := dq_tup hd4
  obtain ⟨s1, s2, rfl, t1, t2⟩ := dqa2 hA
  refine ⟨al, _, rfl, hT, rfl, _, _, rfl, _, _, rfl, rfl, ?_⟩
  have sd : ∀ {σ : L2.St} {H' : Hp} {m : Nat}, Xt (RP T p) H3 H' → σ[4]? = some (some s1) → Ev (RP T p) m m (tVar 4) σ H' (dP K (RP T p) (· = (B.walk Sd.init es).d)) := fun x hσ => ev_dvar hσ (t1.mono x)
  have lv : (vals (B.outs Sd.init es)).length ≤ 60 := Nat.le_trans (List.length_filter_le _ _) (by rw [B.outs_len]; exact hz)
  have ld : (B.deeds (B.walk Sd.init es)).length ≤ 5000 := by
    have := B.deeds_len (B.walk Sd.init es)
    have sm : (B.walk Sd.init es).Sm := sm_walk hz5
    have := sm.f
    have := sm.g
    have := O.sz.1.2
    omega
  refine q_if (n := kk + 9000) (m := kk + 9000) k3 (evt_orF (evt_ne (ev_wd (mk x3 rfl) (rn x3 rfl) O hR hz5) (sd (.refl _) rfl) (lay_stand W) (lay_stand W) (eqv_refl (imm_stand W)))
    (evt_ne (ev_wdK (rnT x3 rfl) (mk x3 rfl) O hR hz5) (sd (.refl _) rfl) (lay_stand W) (lay_stand W) (eqv_refl (imm_stand W)))) (fun z => nomatch z) fun _ H4 x4 k4 => ?_
  have x24 := x3.trans x4
  refine q_asg (n := kk + 9000) (m := kk + 9000) (P := aP K (RP T p) H4 (vals (B.outs Sd.init es))) k4 (ev_dl (mk x24 rfl) (rn x24 rfl) O hR hz5) fun v6 H5 x5 k5 ⟨D6, e6, A6⟩ => ?_
  subst e6
  refine q_if (n := kk + 9000) (m := kk + 9000) k5 (evt_orF (evt_ne (ev_dvar rfl A6.dq) (ev_valsE (ev_dvar rfl (t2.mono (x4.trans x5))) O hR hz5 (fun _ _ => rfl) (fun _ _ => rfl)) (lay_vals O hR) (lay_vals O hR) (eqvL_refl (imm_vals O hR)))
    (evt_ne (ev_dlK (rn (x24.trans x5) rfl) (mk (x24.trans x5) rfl) O hR hz5) (ev_dvar rfl A6.dq) (lay_vals O hR) (lay_vals O hR) (eqvL_refl (imm_vals O hR)))) (fun z => nomatch z) fun _ H6 x6 k6 => ?_
  refine q_appK (n := kk + 9000) (m := kk + 9000) k6 (A6.go x6) rfl ev_dn rfl (by omega) fun H7 k7 A7 => ?_
  have x27 := x24.trans A7.xt
  have x37 := x4.trans A7.xt
  refine q_asg (n := kk + 9000) (m := kk + 9000) (P := aP K (RP T p) H7 ((B.deeds (B.walk Sd.init es)).map Evt.d)) k7 (ev_po (mk x27 rfl) (rn x27 rfl) O hR hz5) fun v7 H8 x8 k8 ⟨D7, e7, A8⟩ => ?_
  subst e7
  refine q_if (n := kk + 9000) (m := kk + 9000) k8 (evt_orF (evt_ne (ev_dvar rfl A8.dq) (ev_lD (ev_deE (rw_ (x2.trans (x27.trans x8)) rfl) (sd (x37.trans x8) rfl) O W (sm_walk hz5))) lay_deeds lay_deeds (eqvL_refl imm_deeds))
    (evt_ne (ev_poK (rn (x27.trans x8) rfl) (mk (x27.trans x8) rfl) O hR hz5) (ev_dvar rfl A8.dq) lay_deeds lay_deeds (eqvL_refl imm_deeds))) (fun z => nomatch z) fun _ H9 x9 k9 => ?_
  refine q_appK (n := kk + 9000) (m := kk + 9000) k9 (A8.go x9) rfl ev_dn rfl (by rw [List.length_map]; omega) fun H10 k10 A10 => ?_
  have x210 := x27.trans A10.xt
  have x310 := x37.trans A10.xt
  refine q_if (n := kk + 9000) (m := kk + 9000) k10 (evt_orF (evt_ne (ev_aD (ev_po (mk x210 rfl) (rn x210 rfl) O hR hz5)) (ev_lD (ev_deE (rw_ (x2.trans x210) rfl) (sd x310 rfl) O W (sm_walk hz5))) lay_deeds lay_deeds (eqvL_refl imm_deeds))
    (evt_ne (ev_aD (ev_dl (mk x210 rfl) (rnT x210 rfl) O hR hz5)) (ev_aD (ev_slToA (ev_var rfl ((A7.go A10.xt).lP rfl)) ev_neg1 cut_snoc (imm_vals O hR))) (lay_vals O hR) (lay_vals O hR) (eqvL_refl (imm_vals O hR)))) (fun z => nomatch z) fun _ H11 x11 k11 => ?_
  have x211 := x210.trans x11
  have lP3 : ∀ {H' : Hp}, Xt (RP T p) H2 H' → (lP K (RP T p) (· = es.map Evt.d)).r (.ref D3) H' := fun x => (A3.go x).lP rfl
  have cn : WE.cutD (es.map Evt.d) none (some (-1)) = (es.take (es.length - 1)).map Evt.d := by rw [cut_neg, List.length_map, List.map_take]
  have c16 : WE.cutD (es.map Evt.d) none (some 16) = (es.take 16).map Evt.d := by rw [cut_16, List.map_take]
  refine q_forR (n := kk + 9000) (m := kk + 8000) (Ps := [runB K (RP T p) B, runB K (RP T p) B, runB K (RP T p) B]) k11 (ev_tR (eva_cons ((ev_slToA (es := (es.take (es.length - 1)).map Evt.d) (ev_var rfl (lP3 x211)) ev_neg1 cn imm_deeds).imp fun v H' _ ⟨D, e, A⟩ => ⟨es.take (es.length - 1), B.run_take _ hR, by rw [List.length_take]; omega, by subst e; exact rP_acc A⟩) (eva_cons (ev_ldB (ev_ldE (k := kk + 9000) rfl (rw_ (x2.trans x211) rfl) (ev_dr rfl (by decide) (by decide) (by omega)) O)) (eva_cons ((rn x211 rfl).imp fun v H' _ h => ⟨es, hR, hz, h⟩) eva_nil))) (by show 3 ≤ 1000; decide)) fun H12 x12 k12 => ⟨fun i σ' H' => (∃ y8, σ' = [some (.ref p), some v1, some v2, some (.ref D3), some s1, some s2, some (.ref D6), some (.ref D7), y8, none, none, none, none, none, none]) ∧ Xt (RP T p) H12 H' ∧ WE.Ok (RP T p) (kk + 8000) H', ⟨⟨none, rfl⟩, .refl _, k12⟩, fun _ _ _ h => h.2.1, fun i Q v σ' H' hi ⟨⟨y8, e⟩, x', k'⟩ hv => ?_, fun σ' H13 ⟨⟨y8, e⟩, x13, k13⟩ => ?_⟩
  · subst e
    have hv : (runB K (RP T p) B).r v H' := by
      match i, hi with
      | 0, hi => cases (Option.some.inj hi); exact hv
      | 1, hi => cases (Option.some.inj hi); exact hv
      | 2, hi => cases (Option.some.inj hi); exact hv
      | i + 3, hi => simp at hi
    have xx := (x211.trans x12).trans x'
    exact s_if k' (evt_notT (evt_B (ev_rr (rw_ (x2.trans xx) rfl) (mk xx rfl) (ev_var rfl hv) O))) (fun z => nomatch z) fun _ H8 x8 k8 => ⟨⟨_, rfl⟩, x'.trans x8, k8⟩
  subst e
  have x213 := (x211.trans x12).trans x13
  refine q_acc0 (K := K) k13 fun D9 H14 k14 A14 => ?_
  have x214 := x213.trans A14.xt
  refine q_forLst (n := kk + 8000) (m := kk + 8000) (ds := (es.take 16).map Evt.d) k14 (ev_slToA (ev_var rfl (lP3 x214)) ev_int c16 imm_deeds) fun Da H15 xs k15 A15 hT15 hA15 => ⟨fun i σ' H' => ∃ y10, σ' = [some (.ref p), some v1, some v2, some (.ref D3), some s1, some s2, some (.ref D6), some (.ref D7), y8, some (.ref D9), y10, none, none, none, none] ∧ WE.Ok (RP T p) (kk + 8000) H' ∧ AccAt K (RP T p) H13 D9 (((es.take 16).take i).map Evt.d) H' ∧ H' Da = some (.lst xs) ∧ Tx H15 H', ⟨none, rfl, k15, A14.go A15.xt, hT15, ⟨fun _ _ h => h, fun _ _ _ h => h⟩⟩, fun i σ' H' h => by obtain ⟨_, _, _, _, h, _⟩ := h; exact h, fun i v σ' H' hi ⟨y10, e, k', A', hT', tx⟩ => ?_, fun σ' H16 ⟨y10, e, k16, A16, _, _⟩ => ?_⟩
  · subst e
    obtain ⟨d', q1, q2⟩ := hA15.getV hi
    obtain ⟨ev, he, rfl⟩ := evs_at q1
    have hv' : Dq K (RP T p).M H' v ev.d := q2.imm tx imm_evt
    have ne9 : Da ≠ D9 := fun z => by
      obtain ⟨acc, h1, _⟩ := A14.ex
      have := A15.new
      rw [z, h1] at this
      cases this
    have elen : ((es.take 16).take i).length ≤ 60 := by rw [List.length_take, List.length_take]; omega
    refine q_appX (n := kk + 8000) (m := kk + 8000) k' A' rfl (ev_dvar rfl hv') imm_evt (by rw [List.length_map]; omega) fun H6 k6 A6 tx6 kp => ?_
    rw [show ((es.take 16).take i).map Evt.d ++ [ev.d] = ((es.take 16).take (i + 1)).map Evt.d by rw [take_snoc he, List.map_append] <;> rfl] at A6
    have h6 := kp Da xs ne9 A15.nm hT'
    have xx := x213.trans A6.xt
    have len' : ((es.take 16).take (i + 1)).length ≤ 60 := by rw [List.length_take, List.length_take]; omega
    refine s_if (n := kk + 8000) (m := kk + 8000) k6 ((evt_and (p := fun _ => True) (q := (· = false)) ((evt_test (ev_neI (pi := fun _ => True) (qi := (· = 0)) (ev_I (pi := fun _ => True) (qi := (· = 3)) ((ev_lenL (ev_dvar rfl A6.dq)).imp fun v H' _ ⟨z, e, _⟩ => ⟨z, e, trivial⟩) ev_int (fun i j _ e => by rw [show j = 3 from e]; decide) fun i j H _ _ => ⟨_, rfl, trivial⟩) ev_int)).imp fun b _ => trivial) fun _ => evt_notT (evt_B (ev_rr (rw_ (x2.trans xx) rfl) (mk xx rfl) (ev_var rfl ⟨_, (B.run_take (i + 1) (B.run_take 16 hR)), len', rP_acc A6⟩) O))).imp (q := (· = false)) fun b h => by rcases h with ⟨e, _⟩ | ⟨_, e⟩ <;> exact e) (fun z => nomatch z) fun _ H7 x7 k7 => ⟨_, rfl, k7, A6.go x7, x7.keep Da _ h6 A15.nm (fun _ z => nomatch z), (tx.trans tx6).trans x7.tx⟩
  subst e
  have x216 := x213.trans A16.xt
  refine q_asgT (n := kk + 8000) (m := kk + 8000) k16 (ev_duE (rw_ (x2.trans x216) rfl) (mk x216 rfl) O) fun v11 H17 x17 k17 ⟨al2, xs2, e, hT2, hA2⟩ => ?_
  subst e
  obtain ⟨v11, _, rfl, hr1, v12, _, rfl, hr2, e⟩ := hA2
  cases e
  refine ⟨al2, _, rfl, .inl (.inl hT2), rfl, _, _, rfl, _, _, rfl, rfl, ?_⟩
  refine q_forT (K := K) (n := kk + 8000) (m := kk + 8000) (ds := [.int 1, .int 0, .int 2, .int 1, .int 0]) k17 (ev_tupK [.int 1, .int 0, .int 2, .int 1, .int 0] (eva_d ev_di (eva_d ev_di (eva_d ev_di (eva_d ev_di (eva_d ev_di eva_nil))))) (by show 5 ≤ 1000; decide)) fun H18 x18 k18 => ⟨fun i σ' H' => (∃ y13, σ' = [some (.ref p), some v1, some v2, some (.ref D3), some s1, some s2, some (.ref D6), some (.ref D7), y8, some (.ref D9), y10, some v11, some v12, y13, none]) ∧ Xt (RP T p) H18 H' ∧ WE.Ok (RP T p) (kk + 8000 - 1000 * i) H', ⟨⟨none, rfl⟩, .refl _, k18⟩, fun _ _ _ h => h.2.1, fun i d v σ' H' hi ⟨⟨y13, e⟩, x', k'⟩ hv => ?_, fun σ' H19 ⟨⟨y13, e⟩, x19, k19⟩ => ?_⟩
  · subst e
    have hlt : i < 5 := by
      have := (List.getElem?_eq_some_iff.mp hi).1
      exact this
    obtain ⟨j, hj, ed⟩ : ∃ j : Nat, j ≤ 2 ∧ d = .int ((j : Nat) : Int) := by
      match i, hi with
      | 0, hi => exact ⟨1, by decide, (Option.some.inj hi).symm⟩
      | 1, hi => exact ⟨0, by decide, (Option.some.inj hi).symm⟩
      | 2, hi => exact ⟨2, by decide, (Option.some.inj hi).symm⟩
      | 3, hi => exact ⟨1, by decide, (Option.some.inj hi).symm⟩
      | 4, hi => exact ⟨0, by decide, (Option.some.inj hi).symm⟩
      | i + 5, hi => simp at hi
    subst ed
    have := dq_int hv
    subst this
    obtain ⟨g1, g2⟩ : B.raws[j]? = some (B.duo j).raw ∧ (B.pairs K (RP T p) CP CS CR)[j]? = some (pP K (RP T p) CP CS CR (B.duo j).fS (B.duo j).fR) := by
      match j, hj with
      | 0, _ => exact ⟨rfl, rfl⟩
      | 1, _ => exact ⟨rfl, rfl⟩
      | 2, _ => exact ⟨rfl, rfl⟩
    have xx := x18.trans x'
    have hr1' := (lP K (RP T p) (· = B.raws)).mono _ _ _ xx hr1
    have hr2' := (lR (RP T p) (B.pairs K (RP T p) CP CS CR)).mono _ _ _ xx hr2
    have Oj := O.duo j
    have ri : ∀ {m : Nat}, Ev (RP T p) m m (tOp (rIx K) (tVar 11) (tVar 13)) [some (.ref p), some v1, some v2, some (.ref D3), some s1, some s2, some (.ref D6), some (.ref D7), y8, some (.ref D9), y10, some v11, some v12, some (.int ((j : Nat) : Int)), none] H' (dP K (RP T p) (· = (B.duo j).raw)) := ev_ixL (i := j) (ev_dvar rfl (lP_dq hr1')) (ev_ivar rfl) rfl g1
    exact s_if (n := kk + 8000 - 1000 * i) (m := kk + 8000 - 1000 * (i + 1)) k' (evt_notT (evt_B (ev_rr (l := kk + 8000 - 1000 * i) ri (ev_ixO (i := j) (ev_var rfl hr2') (ev_ivar rfl) rfl g2) (ev_ldB (ev_ldE (k := kk + 8000 - 1000 * i) rfl ri (ev_dr rfl (by decide) (by decide) (by omega)) Oj)) Oj))) (fun z => nomatch z) fun _ H8 x8 k8 => ⟨⟨_, rfl⟩, x'.trans x8, k8⟩
  subst e
  have x2f := ((x216.trans x17).trans x18).trans x19
  have pd : PDat B.fS B.fR (dat8 B.a B.b B.c B.s B.t B.h B.k B.r) (dat8 B.a B.b B.c B.s' B.t' B.h' B.g' B.r') := ⟨is8S, is8R, O.S.lay, O.R.lay⟩
  have x3f : Xt (RP T p) H3 H19 := ((((((x310.trans x11).trans x12).trans x13).trans A16.xt).trans x17).trans x18).trans x19
  refine s_ret (m := kk) (P := bP (RP T p) (· = true)) (k19.mono (show kk ≤ kk + 8000 - 1000 * 5 by omega)) (ev_andE (b1 := true) (b2 := true) ((ev_eqP N.ci (mk x2f rfl) (ev_mdE (rw_ (x2.trans x2f) rfl) O.S O.R) pd pd).imp fun v H' _ ⟨b, e, e2⟩ => ⟨b, e, by
    rw [e2, eqv_dat8, eqv_dat8, eqv_refl (immS O.S), eqv_refl (immR O.R)] <;> rfl⟩) fun _ => (ev_eqL (ev_wd (mk x2f rfl) (rn x2f rfl) O hR hz5) (sd x3f rfl) (lay_stand W) (lay_stand W)).imp fun v H' _ ⟨b, e, e2⟩ => ⟨b, e, by rw [e2]; exact eqv_refl (imm_stand W)⟩) fun v H20 x20 k20 ⟨b, e, e2⟩ => ?_
  subst e e2
  exact fin0 _ H20 (.bool true) (x1.trans (x2.trans (x2f.trans x20))) k20 (.bl true) rfl
end
end LW

set_option Elab.async false
set_option linter.all false
set_option maxRecDepth 100000
set_option maxHeartbeats 8000000
namespace LW
open PySem PySem.Spec PyProof.Rows L2 LamX NdefX WE WLam WQ
/-! ### the pair that repeats, its run -/
def B2 : Tb := ⟨2, 2, 1, [.none, .int 0, .int 1], [.int 0, .int 1, .int 2], [.tuple [.int 0], .tuple [.int 0], .tuple [.int 0]], [.tuple [.int 1, .int 2], .none, .none], [.int 0, .int 0, .int 0], [.int 0], [.int 0], [.tuple [.int 0, .int 0]], [.tuple [.int 0, .int 1]], [.int 0]⟩
theorem b2_raw : repsD 2 = B2.raw := by rfl
theorem b2_ok : B2.Ok := by
  obtain ⟨a, b, c, S, G, e, sz, ⟨s, t, h, g, r, rfl, O1, z1⟩, ⟨s', t', h', g', r', rfl, O2, z2⟩⟩ := raw_reps (n := 2) (.inr rfl)
  rw [b2_raw] at e
  cases e
  exact ⟨O1, O2, sz, z1, z2⟩
def es2 : List Evt := [.hand 1, .send, .send, .passF, .answer, .passB]
theorem es2_run : B2.Run Sd.init es2 := ⟨⟨rfl, by decide⟩, trivial, trivial, (fun z => nomatch z), trivial, (fun z => nomatch z), trivial⟩
theorem es2_walk : (B2.walk Sd.init es2).d = .tuple [.int 0, .int 0, .tuple [.int 1], .tuple []] := by rfl
theorem es2_vals : vals (B2.outs Sd.init es2) = [.int 1] := by rfl
theorem es2_deeds : WE.cutD ((B2.deeds (B2.walk Sd.init es2)).map Evt.d) (some 4) none = [.tuple [.str "pass", .str "forward"], .tuple [.str "lose", .str "forward", .int 0], .tuple [.str "crash", .str "sender"], .tuple [.str "crash", .str "receiver"]] := by rfl
section
variable {P : Program} {w : World} {K : PySem.W.Frag} {mg : Str → Option Value} {base : Heap} {T : List (Addr × Str)} {CP CT CS CR fP : Addr}
theorem sc_law5 : FnScope ["script", "at", "purse", "lap", "made", "deeds", "told"] ["script"] (defScope s_law) := ⟨rfl, rfl, rfl, by decide +kernel, rfl, by decide +kernel, by decide +kernel⟩
structure L5 (P : Program) (w : World) (K : PySem.W.Frag) (mg : Str → Option Value) (base : Heap) (T : List (Addr × Str)) (CP CS CR : Addr) : Prop where
  b : Bl mg
  mi : mg "min" = none
  rn : Rn P w K mg base T CP CS CR
  pu : Cal P w K mg base CX0 1 "_law_purse" ["cells", "at"] (SpPu T K)
  ri : Cal P w K mg base CX0 13 "_law_right" ["purse"] (SpRt5 T K)
  rep : Cal P w K mg base CX0 1 "_law_repeats" ["many"] (SpLP T K)
  made : Cal P w K mg base CX0 11 "_law_made" ["raw"] (SpMd T K CP CS CR)
theorem ev_right5 {m : Nat} {σ : L2.St} {H : Hp} {p : Addr} {i : Nat} (hv : σ[i]? = some (some (.ref p))) : Ev (RP T p) (m + 60000) m (tCall (SpRt5 T K) [] E0 (tCons (tVar i) tNil)) σ H (bP (RP T p) (· = true)) :=
  (ev_callP (ps := []) (c := 60000) (post := fun _ d => d = .bool true) hv eva_nil rfl (fun ds h => h)).imp fun v H' _ ⟨d, hd, _, _, e⟩ => by
    subst e
    exact ⟨true, dq_bl hd, rfl⟩
theorem ev_rep2 {R : Rs} {m : Nat} {σ : L2.St} {H : Hp} : Ev R m m (tCall (SpLP R.T K) [] E0 (tCons (tC (.int 2)) tNil)) σ H (dP K R (· = B2.raw)) :=
  (ev_callD (ps := [(· = .int 2)]) (eva_d ev_di eva_nil) rfl fun ds h => by
    obtain ⟨_, _, rfl, rfl, rfl⟩ := h
    exact ⟨2, rfl, by decide, by decide⟩).imp fun v H' _ ⟨d, hd, ds, h, n, e, e2⟩ => ⟨d, hd, by
      obtain ⟨_, _, rfl, rfl, rfl⟩ := h
      cases e
      exact e2.trans b2_raw⟩
theorem ok_law5 {f : Addr} {fd : FuncData} (F : FunD K "law" "law" (defArgs s_law) (defBody s_law) (defScope s_law) [] [] f fd) (Z : L5 P w K mg base T CP CS CR) : FnOk P w K mg base CX0 14 f fd ["script"] (SpLaw T K) := by
  refine fn_ofF F sc_law5 (fun vs H Q E h => ?_) fun cdv A outer s0 H vs Q E hr h => ?_
  · obtain ⟨a, ns, rfl, _⟩ := h
    rfl
  obtain ⟨a, ns, rfl, hS, hl, hT, fin⟩ := h
  have B := Z.b
  refine ⟨_, pss_cons (ps_for PassesOwn.never rfl (pi_range1 (by rfl) B.range (pa_cons (pe_op op_add pe_int (pe_callB (call_min2 rfl) (by rfl) Z.mi (by decide +kernel) (pa_cons pe_int (pa_cons (pe_callB call_len_seq (by rfl) B.len PySem.boot_len (pa_cons (pv 0) pa_nil)) pa_nil)))) pa_nil)) (pg_name (i := 1) sc_law5.nd rfl (.inl rfl))
      (pss_cons (ps_set (i := 2) sc_law5.nd rfl (.inl rfl) (pe_cal Z.pu hr (by decide) (by rfl) pass0 (pa_cons (pv 0) (pa_cons (pv 1) pa_nil))))
      (pss_one (ps_for PassesOwn.never rfl (pi_range1 (by rfl) B.range (pa_cons pe_int pa_nil)) (pg_name (i := 3) sc_law5.nd rfl (.inl rfl))
        (pss_one (ps_if (pt_not (pt_val (pe_cal Z.ri hr (by decide) (by rfl) pass0 (pa_cons (pv 2) pa_nil)))) (pss_one ps_never) pss_nil))))))
    (pss_cons (ps_set (i := 4) sc_law5.nd rfl (by first | exact .inl rfl | exact .inr rfl) (pe_cal Z.made hr (by decide) (by rfl) pass0 (pa_cons (pe_cal Z.rep hr (by decide) (by rfl) pass0 (pa_cons pe_int pa_nil)) pa_nil)))
    (pss_cons (ps_set (i := 5) sc_law5.nd rfl (by first | exact .inl rfl | exact .inr rfl) (pe_lst (pa_cons (pe_tup (pa_cons pe_str (pa_cons pe_int pa_nil))) (pa_cons (pe_tup (pa_cons pe_str pa_nil)) (pa_cons (pe_tup (pa_cons pe_str pa_nil)) (pa_cons (pe_tup (pa_cons pe_str (pa_cons pe_str pa_nil))) (pa_cons (pe_tup (pa_cons pe_str pa_nil)) (pa_cons (pe_tup (pa_cons pe_str (pa_cons pe_str pa_nil))) pa_nil))))))))
    (pss_cons (ps_if (PW.pt (pw_or (pt_cmpR (r := rNeD K) (op_neD hr.units) (pe_cal Z.rn.wd hr (by decide) (by rfl) pass0 (pa_cons (pv 4) (pa_cons (pv 5) pa_nil))) (pe_tup (pa_cons pe_int (pa_cons pe_int (pa_cons (pe_tup (pa_cons pe_int pa_nil)) (pa_cons (pe_tup pa_nil) pa_nil))))) (nomark _))
        (pw_or1 (pt_cmpR (r := rNeD K) (op_neD hr.units) (pe_cal Z.rn.dl hr (by decide) (by rfl) pass0 (pa_cons (pv 4) (pa_cons (pv 5) pa_nil))) (pe_lst (pa_cons pe_int pa_nil)) (nomark _))))) (pss_one ps_never) pss_nil)
    (pss_cons (ps_if (pt_cmpR (r := rNeD K) (op_neD hr.units) (pe_cal Z.rn.wd hr (by decide) (by rfl) pass0 (pa_cons (pv 4) (pa_cons (pe_lst pa_nil) pa_nil))) (pe_tup (pa_cons pe_int (pa_cons pe_int (pa_cons (pe_tup pa_nil) (pa_cons (pe_tup pa_nil) pa_nil))))) (nomark _)) (pss_one ps_never) pss_nil)
    (pss_cons (ps_set (i := 6) sc_law5.nd rfl (by first | exact .inl rfl | exact .inr rfl) (pe_slice sl_list (pe_cal Z.rn.po hr (by decide) (by rfl) pass0 (pa_cons (pv 4) (pa_cons (pv 5) pa_nil))) (po_some pe_int) po_none))
    (pss_one (ps_ret (pe_cmpR (r := rEqD K) (op_eqD hr.units) (pv 6) (pe_lst (pa_cons (pe_tup (pa_cons pe_str (pa_cons pe_str pa_nil))) (pa_cons (pe_tup (pa_cons pe_str (pa_cons pe_str (pa_cons pe_int pa_nil)))) (pa_cons (pe_tup (pa_cons pe_str (pa_cons pe_str pa_nil))) (pa_cons (pe_tup (pa_cons pe_str (pa_cons pe_str pa_nil))) pa_nil))))) (nomark _))))))))), ?_⟩
  have k0 : Ok (RT T) 0 H := ⟨hT, fun _ z => z.elim, trivial⟩
  have hd0 : Dq K (RT T).M H (.ref a) (.list (ns.map PyData.int)) := .lst hS (fun z => z) dq_ints
  refine q_rng (R := RT T) (pi := fun i => 0 ≤ i ∧ i ≤ 9) k0 (ev_I0 (pi := (· = 1)) ev_int (ev_min2 ev_int ((ev_len (ev_dvar rfl hd0) fun d e => ⟨_, .inr e⟩).imp fun v H' _ ⟨z, e, d, ds, e1, e2, e3⟩ => ⟨z, e, (show 0 ≤ z by rw [e3]; exact Int.natCast_nonneg _)⟩)) fun i j H1 e1 ⟨y, z, e2, e3, e4⟩ => ⟨_, rfl, ?_⟩) (fun i hi => by omega) fun i H1 hi x1 k1 => ⟨fun j σ' H' => (∃ y1 y2 y3, σ' = [some (.ref a), y1, y2, y3, none, none, none]) ∧ Xt (RT T) H H' ∧ Ok (RT T) 0 H', ⟨⟨none, none, none, rfl⟩, x1, k1⟩, fun j σ' H' hj ⟨⟨y1, y2, y3, e⟩, x2, k2⟩ => ?_, fun σ' H2 ⟨⟨y1, y2, y3, e⟩, x2, k2⟩ => ?_⟩
  · have e1 : i = 1 := e1
    have e2 : y = 8 := e2
    have e3 : 0 ≤ z := e3
    subst e1 e2 e4
    split <;> omega
  · subst e
    refine q_purse (ns := ns) k2 rfl (hd0.mono x2) rfl (by omega) (by omega) fun p H3 H4 x3 hp x4 k4 hP => ?_
    have kp := Ok.toP k4 hP
    refine s_rng (R := RP T p) (pi := (· = 3)) kp ev_int (fun i e => by have e : i = 3 := e; omega) fun i3 H5 e3 x5 k5 => ⟨fun l σ' H' => (∃ y3, σ' = [some (.ref a), some (.int (j : Int)), some (.ref p), y3, none, none, none]) ∧ Xt (RP T p) H4 H' ∧ Ok (RP T p) (900000000000 - 60000 * l) H', ⟨⟨_, rfl⟩, x5, k5.mono (by omega)⟩, fun l σ' H' hl ⟨⟨y3, e⟩, x6, k6⟩ => ?_, fun σ' H6 ⟨⟨y3, e⟩, x6, k6⟩ => ?_⟩
    · have e3 : i3 = 3 := e3
      subst e e3
      refine s_if (k6.mono (show (900000000000 - 60000 * (l + 1)) + 60000 ≤ _ by omega)) (evt_notT (evt_B (ev_right5 rfl))) (fun z => nomatch z) fun _ H7 x7 k7 => ⟨⟨_, rfl⟩, x6.trans x7, k7⟩
    · subst e
      exact ⟨⟨_, _, _, rfl⟩, x2.trans (x3.trans (Xt.ofP x4 hp x6)), Ok.ofP k6⟩
  · subst e
    have hz : es2.length ≤ 500 := by decide
    have W := b2_ok.walk b2_ok.init es2_run
    refine q_asg (R := RT T) (n := 0) (m := 0) (P := pP K (RT T) CP CS CR B2.fS B2.fR) k2 (ev_mdE ev_rep2 b2_ok.S b2_ok.R) fun v4 H3 x3 k3 hp => ?_
    refine q_asg (R := RT T) (n := 0) (m := 0) (P := lP K (RT T) (· = es2.map Evt.d)) k3 (ev_lLst (es2.map Evt.d) (eva_d (ev_tupK [.str "hand", .int 1] (eva_d ev_ds (eva_d ev_di eva_nil)) (by show 2 ≤ 1000; decide)) (eva_d (ev_tupK [.str "send"] (eva_d ev_ds eva_nil) (by show 1 ≤ 1000; decide)) (eva_d (ev_tupK [.str "send"] (eva_d ev_ds eva_nil) (by show 1 ≤ 1000; decide)) (eva_d (ev_tupK [.str "pass", .str "forward"] (eva_d ev_ds (eva_d ev_ds eva_nil)) (by show 2 ≤ 1000; decide))
      (eva_d (ev_tupK [.str "answer"] (eva_d ev_ds eva_nil) (by show 1 ≤ 1000; decide)) (eva_d (ev_tupK [.str "pass", .str "backward"] (eva_d ev_ds (eva_d ev_ds eva_nil)) (by show 2 ≤ 1000; decide)) eva_nil)))))) (by show 6 ≤ 1000; decide)) fun v5 H4 x4 k4 hd => ?_
    have mk : ∀ {σ : L2.St} {H' : Hp} {m : Nat}, Xt (RT T) H4 H' → σ[4]? = some (some v4) → Ev (RT T) m m (tVar 4) σ H' (pP K (RT T) CP CS CR B2.fS B2.fR) := fun x hσ => ev_var hσ ((pP K (RT T) CP CS CR B2.fS B2.fR).mono _ _ _ (x4.trans x) hp)
    have rn : ∀ {σ : L2.St} {H' : Hp} {m : Nat}, Xt (RT T) H4 H' → σ[5]? = some (some v5) → Ev (RT T) m m (tVar 5) σ H' (rP K (RT T) es2) := fun x hσ => ev_var hσ ((rP K (RT T) es2).mono _ _ _ x (rP_l hd))
    refine q_if (R := RT T) (n := 0) (m := 0) k4 (evt_orF (evt_ne (d := (B2.walk Sd.init es2).d) (e := (B2.walk Sd.init es2).d) (ev_wd (mk (.refl _) rfl) (rn (.refl _) rfl) b2_ok es2_run hz) (dP_eq (ev_tupK [.int 0, .int 0, .tuple [.int 1], .tuple []] (eva_d ev_di (eva_d ev_di (eva_d (ev_tupK [.int 1] (eva_d ev_di eva_nil) (by show 1 ≤ 1000; decide)) (eva_d (ev_tupK [] eva_nil (by show 0 ≤ 1000; decide)) eva_nil)))) (by show 4 ≤ 1000; decide)) es2_walk.symm) (lay_stand W) (lay_stand W) (eqv_refl (imm_stand W)))
      (evt_ne (ev_aD (ev_dl (mk (.refl _) rfl) (rn (.refl _) rfl) b2_ok es2_run hz)) (dP_eq (ev_lstK [.int 1] (eva_d ev_di eva_nil) (by show 1 ≤ 1000; decide)) (by rw [es2_vals])) (lay_vals b2_ok es2_run) (lay_vals b2_ok es2_run) (eqvL_refl (imm_vals b2_ok es2_run)))) (fun z => nomatch z) fun _ H5 x5 k5 => ?_
    refine q_if (R := RT T) (n := 0) (m := 0) k5 (evt_ne (d := Sd.init.d) (e := Sd.init.d) (ev_wd (B := B2) (es := []) (mk x5 rfl) (ev_l0.imp fun v H' _ h => rP_l h) b2_ok trivial (by decide)) ev_d0 (lay_stand b2_ok.init) (lay_stand b2_ok.init) (eqv_refl (imm_stand b2_ok.init))) (fun z => nomatch z) fun _ H6 x6 k6 => ?_
    have x46 := x5.trans x6
    refine q_asg (R := RT T) (n := 0) (m := 0) (P := lP K (RT T) (· = [.tuple [.str "pass", .str "forward"], .tuple [.str "lose", .str "forward", .int 0], .tuple [.str "crash", .str "sender"], .tuple [.str "crash", .str "receiver"]])) k6 ((ev_slFrom ((ev_po (mk x46 rfl) (rn x46 rfl) b2_ok es2_run hz).imp fun v H' _ h => aP_lP h)).imp fun v H' _ ⟨a, xs, ds, e, n1, h, d, ds', e1, e2⟩ => ⟨a, xs, ds, e, n1, h, d, by rw [e2, show ds' = _ from e1]; exact es2_deeds⟩) fun v6 H7 x7 k7 r7 => ?_
    have lay7 : Lay 6 (.list [.tuple [.str "pass", .str "forward"], .tuple [.str "lose", .str "forward", .int 0], .tuple [.str "crash", .str "sender"], .tuple [.str "crash", .str "receiver"]]) := lay_deeds (l := [.passF, .loseF 0, .crashS, .crashR])
    refine s_ret (R := RT T) (n := 0) (m := 0) (P := bP (RT T) (· = true)) k7 ((ev_eqL (ev_dvar rfl (lP_dq r7)) (ev_lstK [.tuple [.str "pass", .str "forward"], .tuple [.str "lose", .str "forward", .int 0], .tuple [.str "crash", .str "sender"], .tuple [.str "crash", .str "receiver"]] (eva_d (ev_tupK [.str "pass", .str "forward"] (eva_d ev_ds (eva_d ev_ds eva_nil)) (by show 2 ≤ 1000; decide)) (eva_d (ev_tupK [.str "lose", .str "forward", .int 0] (eva_d ev_ds (eva_d ev_ds (eva_d ev_di eva_nil))) (by show 3 ≤ 1000; decide)) (eva_d (ev_tupK [.str "crash", .str "sender"] (eva_d ev_ds (eva_d ev_ds eva_nil)) (by show 2 ≤ 1000; decide)) (eva_d (ev_tupK [.str "crash", .str "receiver"] (eva_d ev_ds (eva_d ev_ds eva_nil)) (by show 2 ≤ 1000; decide)) eva_nil)))) (by show 4 ≤ 1000; decide)) lay7 lay7).imp fun v H' _ ⟨b, e, e2⟩ => ⟨b, e, by rw [e2]; exact eqvL_refl (ds := [.tuple [.str "pass", .str "forward"], .tuple [.str "lose", .str "forward", .int 0], .tuple [.str "crash", .str "sender"], .tuple [.str "crash", .str "receiver"]]) rfl⟩) fun v H8 x8 k8 ⟨b, e, e2⟩ => ?_
    subst e e2
    exact fin H8
end
end LW

set_option Elab.async false
set_option linter.all false
set_option maxRecDepth 100000
set_option maxHeartbeats 4000000
namespace LW
open PySem PySem.Spec PyProof.Rows L2 LamX NdefX WE WLam WQ
/-! ### tuples of words among the module's constants -/
theorem strs_vals : ∀ {vs : List Value} {zs : List Str}, vs.map strV = zs.map some → Vals (zs.map V.str) vs
  | [], [], _ => .nil
  | [], _ :: _, h => by cases h
  | _ :: _, [], h => by cases h
  | v :: vs, z :: zs, h => by
    rw [List.map_cons, List.map_cons] at h
    have h1 := (List.cons.inj h).1
    have h2 := (List.cons.inj h).2
    cases v with
    | str x t =>
      cases (Option.some.inj (show some x = some z from h1))
      exact .cons ⟨t, rfl⟩ (strs_vals h2)
    | _ => cases h1
theorem tupItems_ok {K : PySem.W.Frag} {a : Addr} {vs : List Value} {xs : List V} (h : tupItems K a = some vs) (r : Vals xs vs) : ∀ H, SqT K H a xs := by
  unfold tupItems at h
  split at h
  · rename_i n d its t sl ho
    split at h
    · rename_i q
      obtain ⟨q1, q2⟩ := He.ba q
      cases h
      have q1 := beq_iff_eq.mp q1
      subst q1
      exact fun H => .inr ⟨_, its, t, ho, rfl, rfl, Nat.le_trans (of_decide_eq_true q2) (show 1000 ≤ sizeLine by decide), r⟩
    · cases h
  · cases h
theorem dqa_strs {K : PySem.W.Frag} {M : Addr → Prop} {H : Hp} : ∀ {zs : List Str}, DqAll K M H (zs.map V.str) (zs.map PyData.str)
  | [] => .nil
  | z :: zs => .cons (.str z) dqa_strs
theorem strsAt_ok {K : PySem.W.Frag} {v : Value} {zs : List Str} (h : strsAt K v zs = true) : ∃ a, v = .ref a ∧ ∀ H, SqT K H a (zs.map V.str) := by
  unfold strsAt at h
  split at h
  · rename_i a
    split at h
    · rename_i vs e
      exact ⟨a, rfl, tupItems_ok e (strs_vals (of_decide_eq_true h))⟩
    · cases h
  · cases h
theorem tup1B_ok {K : PySem.W.Frag} {mg : Str → Option Value} {x : Str} {zs : List Str} (h : tup1B x zs K = true) (g : mg x = some (.ref (He.ga K x))) : CstT K mg x (zs.map PyData.str) := by
  obtain ⟨a, e, hs⟩ := strsAt_ok h
  cases e
  exact ⟨_, _, g, hs, fun M H => dqa_strs⟩
theorem allAt_ok {K : PySem.W.Frag} : ∀ {vs : List Value} {zss : List (List Str)}, allAt K vs zss = true → ∃ xs, Vals xs vs ∧ ∀ M H, DqAll K M H xs (zss.map fun zs => PyData.tuple (zs.map PyData.str))
  | [], [], _ => ⟨[], .nil, fun _ _ => .nil⟩
  | [], _ :: _, h => by cases h
  | _ :: _, [], h => by cases h
  | v :: vs, zs :: zss, h => by
    obtain ⟨h1, h2⟩ := He.ba h
    obtain ⟨a, rfl, hs⟩ := strsAt_ok h1
    obtain ⟨xs, r, hd⟩ := allAt_ok h2
    exact ⟨.ref a :: xs, .cons rfl r, fun M H => .cons (.tup (hs H) dqa_strs) (hd M H)⟩
theorem tup2B_ok {K : PySem.W.Frag} {mg : Str → Option Value} {x : Str} {zss : List (List Str)} (h : tup2B x zss K = true) (g : mg x = some (.ref (He.ga K x))) : Cst K mg x (.tuple (zss.map fun zs => PyData.tuple (zs.map PyData.str))) := by
  unfold tup2B at h
  split at h
  · rename_i vs e
    obtain ⟨xs, r, hd⟩ := allAt_ok h
    exact ⟨_, g, fun M H => .tup (tupItems_ok e r H) (hd M H)⟩
  · cases h
/-- what the head tells of the talks -/
structure HdT (K : PySem.W.Frag) (mg : Str → Option Value) (CT iT : Addr) : Prop where
  xT : ClsX K mg "Talk" CT iT fiveF
  iT_ : DefM K "__init__" "Talk.__init__" s_Talk_init iT
  t_is_free : DefT K CT "is_free" "Talk.is_free" s_Talk_is_free
  t_allows : DefT K CT "allows" "Talk.allows" s_Talk_allows
  t_step : DefT K CT "step" "Talk.step" s_Talk_step
  t_send : DefT K CT "send" "Talk.send" s_Talk_send
  t_answer : DefT K CT "answer" "Talk.answer" s_Talk_answer
  t_pass_forward : DefT K CT "pass_forward" "Talk.pass_forward" s_Talk_pass_forward
  t_pass_backward : DefT K CT "pass_backward" "Talk.pass_backward" s_Talk_pass_backward
  t_crash : DefT K CT "crash" "Talk.crash" s_Talk_crash
  ch : CstT K mg "CHANNELS" [.str "forward", .str "backward"]
  pl : Cst K mg "PLAIN_EVENTS" plainD
  d_is_event : Def1 K mg "is_event" s_is_event
  d_moment_of : Def1 K mg "moment_of" s_moment_of
  d_check_events : Def1 K mg "check_events" s_check_events
  d_walk : Def1 K mg "walk" s_walk
  d_walked : Def1 K mg "walked" s_walked
  d_delivered : Def1 K mg "delivered" s_delivered
  d_possible : Def1 K mg "possible" s_possible
section
variable {P : Program} {w : World} {K : PySem.W.Frag} {mg : Str → Option Value} {base : Heap} {T : List (Addr × Str)} {CP CS CR CT iT fS fR fP f : Addr} {fd : FuncData}
/-- the contracts of runs -/
structure Pt (P : Program) (w : World) (K : PySem.W.Frag) (mg : Str → Option Value) (base : Heap) (T : List (Addr × Str)) (CP CT CS CR : Addr) : Prop where
  c : TkC K CT
  mt : MkT P w K mg base T CP CT CS CR
  fr : MetT P w K mg base 3 CT "is_free" (SpFr T K CT CS CR)
  al : MetT P w K mg base 4 CT "allows" (SpAl T K CT CS CR)
  st : MetT P w K mg base 4 CT "step" (SpSm T K CT CS CR)
  ck : Cal P w K mg base CX0 4 "check_events" ["pair", "run"] (SpCk T K CP CS CR)
  wk : Cal P w K mg base CX0 6 "walk" ["pair", "run"] (SpW T K CP CT CS CR)
  wd : CalF P w K mg base CX0 7 "walked" s_walked ["pair", "run"] (SpWd T K CP CS CR)
  dl : CalF P w K mg base CX0 7 "delivered" s_delivered ["pair", "run"] (SpDl T K CP CS CR)
  po : CalF P w K mg base CX0 7 "possible" s_possible ["pair", "run"] (SpPo T K CP CS CR)
theorem pt_of (g : Pg P w K mg base T CP CS CR fP fS fR) (h : HdT K mg CT iT) : Pt P w K mg base T CP CT CS CR := by
  have B := g.b
  have C : TkC K CT := ⟨h.xT.cl, h.xT.no⟩
  have ev := ok_is_event (CR := CR) h.d_is_event B g.np g.nS g.iif g.isb (h.ch.cst) h.pl
  have ck := ok_check_events h.d_check_events B g.isl ev
  have mk : MkT P w K mg base T CP CT CS CR := mk_talk h.iT_ h.xT g.np
  have fr := met_free (T := T) (CR := CR) h.t_is_free C g.nS
  have al := met_allows h.t_allows B C fr
  have st := met_step h.t_step C g.nS ⟨met_send (T := T) (CR := CR) h.t_send C g.nS, met_answer (CS := CS) h.t_answer C g.nR, met_passF (CS := CS) h.t_pass_forward C g.nR, met_passB (CR := CR) h.t_pass_backward C g.nS, met_crash h.t_crash C g.nS g.nR⟩
  have wk := ok_walk h.d_walk B C g.ckp ck mk al st
  exact ⟨C, mk, fr, al, st, ck, wk, okF_walked h.d_walked wk (ok_moment_of h.d_moment_of B C), okF_delivered h.d_delivered wk, okF_possible h.d_possible B C g.np g.nS wk fr h.ch⟩
theorem law_k05 (F : FunD K "law" "law" (defArgs s_law) (defBody s_law) (defScope s_law) [] [] f fd) (g : Pg P w K mg base T CP CS CR fP fS fR) (ht : HdT K mg CT iT) (mi : mg "min" = none) (mx : mg "max" = none)
    (d1 : Def1 K mg "_law_mixed" s_law_mixed) (d2 : Def1 K mg "_law_purse" s_law_purse) (d3 : Def1 K mg "_law_draw" s_law_draw) (d4 : Def1 K mg "_law_row" s_law_row) (d5 : Def1 K mg "_law_falls" s_law_falls) (d6 : Def1 K mg "_law_letters" s_law_letters) (d7 : Def1 K mg "_law_sender" s_law_sender) (d8 : Def1 K mg "_law_receiver" s_law_receiver)
    (d9 : Def1 K mg "_law_turns" s_law_turns) (d10 : Def1 K mg "_law_greets" s_law_greets) (d11 : Def1 K mg "_law_repeats" s_law_repeats) (d12 : Def1 K mg "_law_raw" s_law_raw) (d13 : Def1 K mg "_law_made_sender" s_law_made_sender) (d14 : Def1 K mg "_law_made_receiver" s_law_made_receiver) (d15 : Def1 K mg "_law_made" s_law_made)
    (d16 : Def1 K mg "_law_tick" s_law_tick) (d17 : Def1 K mg "_law_step" s_law_step) (d18 : Def1 K mg "_law_deeds" s_law_deeds) (d19 : Def1 K mg "_law_led" s_law_led) (d20 : Def1 K mg "_law_walk" s_law_walk) (d21 : Def1 K mg "_law_duos" s_law_duos) (d22 : Def1 K mg "_law_run_right" s_law_run_right) (d23 : Def1 K mg "_law_right" s_law_right) : FnOk P w K mg base CX0 14 f fd ["script"] (SpLaw T K) := by
  have B := g.b
  have mx1 := ok_law_mixed (P := P) (w := w) (base := base) (T := T) d1 B
  have dr := ok_law_draw d3 B mx1
  have rw_ := ok_law_row d4 B dr
  have lw : Lw P w K mg base T := ⟨dr, rw_, ok_law_falls d5 B dr rw_, ok_law_letters d6 B dr⟩
  have tu := ok_law_turns (P := P) (w := w) (base := base) (T := T) d9 B
  have gr := ok_law_greets (P := P) (w := w) (base := base) (T := T) d10 B
  have re := ok_law_repeats (P := P) (w := w) (base := base) (T := T) d11 B
  have lx : Lx P w K mg base T := ⟨tu, gr, re, ok_law_sender d7 B lw, ok_law_receiver d8 B lw⟩
  have made := ok_law_made d15 g.mp (ok_law_made_sender d13 g.mkS) (ok_law_made_receiver d14 g.mkR)
  have pt := pt_of (T := T) g ht
  have tk := ok_law_tick (P := P) (w := w) (base := base) (T := T) d16
  have st := ok_law_step d17 tk
  have de := ok_law_deeds (P := P) (w := w) (base := base) (T := T) d18 B
  have wk := ok_law_walk d20 B st
  have rn : Rn P w K mg base T CP CS CR := ⟨pt.wd.cal fun _ _ _ _ _ _ us hl => match us, hl with | [_, _], _ => rfl, pt.dl.cal fun _ _ _ _ _ _ us hl => match us, hl with | [_, _], _ => rfl, pt.po.cal fun _ _ _ _ _ _ us hl => match us, hl with | [_, _], _ => rfl, krun_walked pt.wd, krun_delivered pt.dl, krun_possible pt.po, de, wk⟩
  have rr := ok_law_run_right d22 rn
  have ri := ok_law_right5 d23 ⟨B, rn, ok_law_raw d12 lw lx, made, dr, ok_law_led d19 B dr st de, rr, ok_law_duos d21 B g.np g.mp made, g.np, g.ep⟩
  exact ok_law5 F ⟨B, mi, rn, ok_law_purse d2 B mx, ri, re, made⟩
end
end LW

set_option Elab.async false
set_option linter.all false
set_option maxRecDepth 100000
set_option maxHeartbeats 0
namespace HD
open PySem PySem.Spec PyProof.Rows L2 LamX NdefX WE WLam WQ LW
section
variable {K : PySem.W.Frag} {h : Heap} {mg : Str → Option Value} (X : K.In h) (G : h.Ns mainGlobals mg) (c : WH.SaysW HD.fa HD.fn HD.pa HD.tf HD.exs h K)
include X G c
theorem bl : Bl mg := ⟨He.free_ok X G (c.d.fact 68 (f := .free "isinstance") rfl), He.free_ok X G (c.d.fact 67 (f := .free "int") rfl), He.free_ok X G (c.d.fact 65 (f := .free "bool") rfl), He.free_ok X G (c.d.fact 70 (f := .free "list") rfl), He.free_ok X G (c.d.fact 74 (f := .free "tuple") rfl), He.free_ok X G (c.d.fact 69 (f := .free "len") rfl), He.free_ok X G (c.d.fact 64 (f := .free "all") rfl), He.free_ok X G (c.d.fact 66 (f := .free "enumerate") rfl), He.free_ok X G (c.d.fact 73 (f := .free "range") rfl)⟩
theorem fr_ValueError : mg "ValueError" = none := He.free_ok X G (c.d.fact 63 (f := .free "ValueError") rfl)
theorem fr_all : mg "all" = none := He.free_ok X G (c.d.fact 64 (f := .free "all") rfl)
theorem fr_bool : mg "bool" = none := He.free_ok X G (c.d.fact 65 (f := .free "bool") rfl)
theorem fr_enumerate : mg "enumerate" = none := He.free_ok X G (c.d.fact 66 (f := .free "enumerate") rfl)
theorem fr_int : mg "int" = none := He.free_ok X G (c.d.fact 67 (f := .free "int") rfl)
theorem fr_isinstance : mg "isinstance" = none := He.free_ok X G (c.d.fact 68 (f := .free "isinstance") rfl)
theorem fr_len : mg "len" = none := He.free_ok X G (c.d.fact 69 (f := .free "len") rfl)
theorem fr_list : mg "list" = none := He.free_ok X G (c.d.fact 70 (f := .free "list") rfl)
theorem fr_max : mg "max" = none := He.free_ok X G (c.d.fact 71 (f := .free "max") rfl)
theorem fr_min : mg "min" = none := He.free_ok X G (c.d.fact 72 (f := .free "min") rfl)
theorem fr_range : mg "range" = none := He.free_ok X G (c.d.fact 73 (f := .free "range") rfl)
theorem fr_tuple : mg "tuple" = none := He.free_ok X G (c.d.fact 74 (f := .free "tuple") rfl)
theorem d_is_integer_from : Def1 K mg "is_integer_from" s_is_integer_from := by
  obtain ⟨fd, F⟩ := c.d.def_ 6 (d := HD.d6) rfl
  exact ⟨_, fd, F, He.glo_ok X G (c.d.fact 8 (f := .glo "is_integer_from") rfl)⟩
theorem d_is_below : Def1 K mg "is_below" s_is_below := by
  obtain ⟨fd, F⟩ := c.d.def_ 7 (d := HD.d7) rfl
  exact ⟨_, fd, F, He.glo_ok X G (c.d.fact 9 (f := .glo "is_below") rfl)⟩
theorem d_is_none_or_below : Def1 K mg "is_none_or_below" s_is_none_or_below := by
  obtain ⟨fd, F⟩ := c.d.def_ 8 (d := HD.d8) rfl
  exact ⟨_, fd, F, He.glo_ok X G (c.d.fact 10 (f := .glo "is_none_or_below") rfl)⟩
theorem d_is_list : Def1 K mg "is_list" s_is_list := by
  obtain ⟨fd, F⟩ := c.d.def_ 9 (d := HD.d9) rfl
  exact ⟨_, fd, F, He.glo_ok X G (c.d.fact 11 (f := .glo "is_list") rfl)⟩
theorem d_check_number : Def1 K mg "check_number" s_check_number := by
  obtain ⟨fd, F⟩ := c.d.def_ 10 (d := HD.d10) rfl
  exact ⟨_, fd, F, He.glo_ok X G (c.d.fact 12 (f := .glo "check_number") rfl)⟩
theorem d_check_counts : Def1 K mg "check_counts" s_check_counts := by
  obtain ⟨fd, F⟩ := c.d.def_ 11 (d := HD.d11) rfl
  exact ⟨_, fd, F, He.glo_ok X G (c.d.fact 13 (f := .glo "check_counts") rfl)⟩
theorem d_state_count : Def1 K mg "state_count" s_state_count := by
  obtain ⟨fd, F⟩ := c.d.def_ 12 (d := HD.d12) rfl
  exact ⟨_, fd, F, He.glo_ok X G (c.d.fact 14 (f := .glo "state_count") rfl)⟩
theorem d_checked_table : Def1 K mg "checked_table" s_checked_table := by
  obtain ⟨fd, F⟩ := c.d.def_ 13 (d := HD.d13) rfl
  exact ⟨_, fd, F, He.glo_ok X G (c.d.fact 15 (f := .glo "checked_table") rfl)⟩
theorem d_are_states : Def1 K mg "are_states" s_are_states := by
  obtain ⟨fd, F⟩ := c.d.def_ 16 (d := HD.d16) rfl
  exact ⟨_, fd, F, He.glo_ok X G (c.d.fact 18 (f := .glo "are_states") rfl)⟩
theorem d_are_gifts : Def1 K mg "are_gifts" s_are_gifts := by
  obtain ⟨fd, F⟩ := c.d.def_ 19 (d := HD.d19) rfl
  exact ⟨_, fd, F, He.glo_ok X G (c.d.fact 21 (f := .glo "are_gifts") rfl)⟩
theorem d_counts : Def1 K mg "counts" s_counts := by
  obtain ⟨fd, F⟩ := c.d.def_ 25 (d := HD.d25) rfl
  exact ⟨_, fd, F, He.glo_ok X G (c.d.fact 25 (f := .glo "counts") rfl)⟩
theorem d_check_pair : Def1 K mg "check_pair" s_check_pair := by
  obtain ⟨fd, F⟩ := c.d.def_ 28 (d := HD.d28) rfl
  exact ⟨_, fd, F, He.glo_ok X G (c.d.fact 27 (f := .glo "check_pair") rfl)⟩
theorem d_is_event : Def1 K mg "is_event" s_is_event := by
  obtain ⟨fd, F⟩ := c.d.def_ 29 (d := HD.d29) rfl
  exact ⟨_, fd, F, He.glo_ok X G (c.d.fact 28 (f := .glo "is_event") rfl)⟩
theorem d_moment_of : Def1 K mg "moment_of" s_moment_of := by
  obtain ⟨fd, F⟩ := c.d.def_ 39 (d := HD.d39) rfl
  exact ⟨_, fd, F, He.glo_ok X G (c.d.fact 30 (f := .glo "moment_of") rfl)⟩
theorem d_check_events : Def1 K mg "check_events" s_check_events := by
  obtain ⟨fd, F⟩ := c.d.def_ 40 (d := HD.d40) rfl
  exact ⟨_, fd, F, He.glo_ok X G (c.d.fact 31 (f := .glo "check_events") rfl)⟩
theorem d_walk : Def1 K mg "walk" s_walk := by
  obtain ⟨fd, F⟩ := c.d.def_ 41 (d := HD.d41) rfl
  exact ⟨_, fd, F, He.glo_ok X G (c.d.fact 32 (f := .glo "walk") rfl)⟩
theorem d_walked : Def1 K mg "walked" s_walked := by
  obtain ⟨fd, F⟩ := c.d.def_ 42 (d := HD.d42) rfl
  exact ⟨_, fd, F, He.glo_ok X G (c.d.fact 33 (f := .glo "walked") rfl)⟩
theorem d_delivered : Def1 K mg "delivered" s_delivered := by
  obtain ⟨fd, F⟩ := c.d.def_ 43 (d := HD.d43) rfl
  exact ⟨_, fd, F, He.glo_ok X G (c.d.fact 34 (f := .glo "delivered") rfl)⟩
theorem d_possible : Def1 K mg "possible" s_possible := by
  obtain ⟨fd, F⟩ := c.d.def_ 44 (d := HD.d44) rfl
  exact ⟨_, fd, F, He.glo_ok X G (c.d.fact 35 (f := .glo "possible") rfl)⟩
theorem d_law_mixed : Def1 K mg "_law_mixed" s_law_mixed := by
  obtain ⟨fd, F⟩ := c.d.def_ 45 (d := HD.d45) rfl
  exact ⟨_, fd, F, He.glo_ok X G (c.d.fact 36 (f := .glo "_law_mixed") rfl)⟩
theorem d_law_purse : Def1 K mg "_law_purse" s_law_purse := by
  obtain ⟨fd, F⟩ := c.d.def_ 46 (d := HD.d46) rfl
  exact ⟨_, fd, F, He.glo_ok X G (c.d.fact 37 (f := .glo "_law_purse") rfl)⟩
theorem d_law_draw : Def1 K mg "_law_draw" s_law_draw := by
  obtain ⟨fd, F⟩ := c.d.def_ 47 (d := HD.d47) rfl
  exact ⟨_, fd, F, He.glo_ok X G (c.d.fact 38 (f := .glo "_law_draw") rfl)⟩
theorem d_law_great : Def1 K mg "_law_great" s_law_great := by
  obtain ⟨fd, F⟩ := c.d.def_ 48 (d := HD.d48) rfl
  exact ⟨_, fd, F, He.glo_ok X G (c.d.fact 39 (f := .glo "_law_great") rfl)⟩
theorem d_law_row : Def1 K mg "_law_row" s_law_row := by
  obtain ⟨fd, F⟩ := c.d.def_ 49 (d := HD.d49) rfl
  exact ⟨_, fd, F, He.glo_ok X G (c.d.fact 40 (f := .glo "_law_row") rfl)⟩
theorem d_law_falls : Def1 K mg "_law_falls" s_law_falls := by
  obtain ⟨fd, F⟩ := c.d.def_ 50 (d := HD.d50) rfl
  exact ⟨_, fd, F, He.glo_ok X G (c.d.fact 41 (f := .glo "_law_falls") rfl)⟩
theorem d_law_letters : Def1 K mg "_law_letters" s_law_letters := by
  obtain ⟨fd, F⟩ := c.d.def_ 51 (d := HD.d51) rfl
  exact ⟨_, fd, F, He.glo_ok X G (c.d.fact 42 (f := .glo "_law_letters") rfl)⟩
theorem d_law_sender : Def1 K mg "_law_sender" s_law_sender := by
  obtain ⟨fd, F⟩ := c.d.def_ 52 (d := HD.d52) rfl
  exact ⟨_, fd, F, He.glo_ok X G (c.d.fact 43 (f := .glo "_law_sender") rfl)⟩
theorem d_law_receiver : Def1 K mg "_law_receiver" s_law_receiver := by
  obtain ⟨fd, F⟩ := c.d.def_ 53 (d := HD.d53) rfl
  exact ⟨_, fd, F, He.glo_ok X G (c.d.fact 44 (f := .glo "_law_receiver") rfl)⟩
theorem d_law_turns : Def1 K mg "_law_turns" s_law_turns := by
  obtain ⟨fd, F⟩ := c.d.def_ 54 (d := HD.d54) rfl
  exact ⟨_, fd, F, He.glo_ok X G (c.d.fact 45 (f := .glo "_law_turns") rfl)⟩
theorem d_law_greets : Def1 K mg "_law_greets" s_law_greets := by
  obtain ⟨fd, F⟩ := c.d.def_ 55 (d := HD.d55) rfl
  exact ⟨_, fd, F, He.glo_ok X G (c.d.fact 46 (f := .glo "_law_greets") rfl)⟩
theorem d_law_repeats : Def1 K mg "_law_repeats" s_law_repeats := by
  obtain ⟨fd, F⟩ := c.d.def_ 56 (d := HD.d56) rfl
  exact ⟨_, fd, F, He.glo_ok X G (c.d.fact 47 (f := .glo "_law_repeats") rfl)⟩
theorem d_law_raw : Def1 K mg "_law_raw" s_law_raw := by
  obtain ⟨fd, F⟩ := c.d.def_ 57 (d := HD.d57) rfl
  exact ⟨_, fd, F, He.glo_ok X G (c.d.fact 48 (f := .glo "_law_raw") rfl)⟩
theorem d_law_made_sender : Def1 K mg "_law_made_sender" s_law_made_sender := by
  obtain ⟨fd, F⟩ := c.d.def_ 58 (d := HD.d58) rfl
  exact ⟨_, fd, F, He.glo_ok X G (c.d.fact 49 (f := .glo "_law_made_sender") rfl)⟩
theorem d_law_made_receiver : Def1 K mg "_law_made_receiver" s_law_made_receiver := by
  obtain ⟨fd, F⟩ := c.d.def_ 59 (d := HD.d59) rfl
  exact ⟨_, fd, F, He.glo_ok X G (c.d.fact 50 (f := .glo "_law_made_receiver") rfl)⟩
theorem d_law_made : Def1 K mg "_law_made" s_law_made := by
  obtain ⟨fd, F⟩ := c.d.def_ 60 (d := HD.d60) rfl
  exact ⟨_, fd, F, He.glo_ok X G (c.d.fact 51 (f := .glo "_law_made") rfl)⟩
theorem d_law_tick : Def1 K mg "_law_tick" s_law_tick := by
  obtain ⟨fd, F⟩ := c.d.def_ 61 (d := HD.d61) rfl
  exact ⟨_, fd, F, He.glo_ok X G (c.d.fact 52 (f := .glo "_law_tick") rfl)⟩
theorem d_law_step : Def1 K mg "_law_step" s_law_step := by
  obtain ⟨fd, F⟩ := c.d.def_ 62 (d := HD.d62) rfl
  exact ⟨_, fd, F, He.glo_ok X G (c.d.fact 53 (f := .glo "_law_step") rfl)⟩
theorem d_law_deeds : Def1 K mg "_law_deeds" s_law_deeds := by
  obtain ⟨fd, F⟩ := c.d.def_ 63 (d := HD.d63) rfl
  exact ⟨_, fd, F, He.glo_ok X G (c.d.fact 54 (f := .glo "_law_deeds") rfl)⟩
theorem d_law_led : Def1 K mg "_law_led" s_law_led := by
  obtain ⟨fd, F⟩ := c.d.def_ 64 (d := HD.d64) rfl
  exact ⟨_, fd, F, He.glo_ok X G (c.d.fact 55 (f := .glo "_law_led") rfl)⟩
theorem d_law_walk : Def1 K mg "_law_walk" s_law_walk := by
  obtain ⟨fd, F⟩ := c.d.def_ 65 (d := HD.d65) rfl
  exact ⟨_, fd, F, He.glo_ok X G (c.d.fact 56 (f := .glo "_law_walk") rfl)⟩
theorem d_law_duos : Def1 K mg "_law_duos" s_law_duos := by
  obtain ⟨fd, F⟩ := c.d.def_ 66 (d := HD.d66) rfl
  exact ⟨_, fd, F, He.glo_ok X G (c.d.fact 57 (f := .glo "_law_duos") rfl)⟩
theorem d_law_run_right : Def1 K mg "_law_run_right" s_law_run_right := by
  obtain ⟨fd, F⟩ := c.d.def_ 67 (d := HD.d67) rfl
  exact ⟨_, fd, F, He.glo_ok X G (c.d.fact 58 (f := .glo "_law_run_right") rfl)⟩
theorem d_law_right : Def1 K mg "_law_right" s_law_right := by
  obtain ⟨fd, F⟩ := c.d.def_ 68 (d := HD.d68) rfl
  exact ⟨_, fd, F, He.glo_ok X G (c.d.fact 59 (f := .glo "_law_right") rfl)⟩
end
abbrev tT (K : PySem.W.Frag) : List (Addr × Str) := tabsT K HD.tf
abbrev aC (K : PySem.W.Frag) (x : Str) : Addr := He.ga K x
abbrev aM (K : PySem.W.Frag) (x m : Str) : Addr := He.ma K (He.ga K x) m
theorem apart {K : PySem.W.Frag} {h : Heap} (c : WH.SaysW HD.fa HD.fn HD.pa HD.tf HD.exs h K) : Apart K (HD.aC K "Pair") (HD.aC K "Sender") (HD.aC K "Receiver") :=
  ⟨of_decide_eq_true (c.ex 30 (e := LW.kitCB "Sender" "Pair") rfl), of_decide_eq_true (c.ex 31 (e := LW.kitCB "Receiver" "Pair") rfl), of_decide_eq_true (c.ex 32 (e := LW.kitCB "Receiver" "Sender") rfl), of_decide_eq_true (c.ex 33 (e := LW.kitCB "Pair" "Sender") rfl), of_decide_eq_true (c.ex 34 (e := LW.kitCB "Pair" "Receiver") rfl), (c.ex 35 (e := LW.notB "Pair" "Sender") rfl), (c.ex 36 (e := LW.notB "Pair" "Receiver") rfl), (c.ex 37 (e := LW.notB "Sender" "Receiver") rfl), (c.ex 38 (e := LW.notB "Sender" "Pair") rfl), (c.ex 39 (e := LW.notB "Receiver" "Pair") rfl), (He.ba (c.ex 40 (e := LW.tupB "Pair") rfl)).1, of_decide_eq_true (He.ba (c.ex 40 (e := LW.tupB "Pair") rfl)).2, awayB_ok (c.ex 20 (e := LW.awayB "Sender") rfl), awayB_ok (c.ex 24 (e := LW.awayB "Receiver") rfl), awayB_ok (c.ex 28 (e := LW.awayB "Pair") rfl), kitB_ok (c.ex 21 (e := LW.kitLB "Sender") rfl), kitB_ok (c.ex 25 (e := LW.kitLB "Receiver") rfl), kitB_ok (c.ex 29 (e := LW.kitLB "Pair") rfl)⟩
theorem hdp {K : PySem.W.Frag} {h base : Heap} {mg : Str → Option Value} (X : K.In h) (G : h.Ns mainGlobals mg) (c : WH.SaysW HD.fa HD.fn HD.pa HD.tf HD.exs h K) (TB : ∀ p ∈ HD.tf.map (He.cT K), TabB base mg p.1 p.2) : HdP K mg base (HD.tT K) (HD.aC K "Pair") (HD.aC K "Sender") (HD.aC K "Receiver") (HD.aM K "Pair" "__init__") (HD.aM K "Sender" "__init__") (HD.aM K "Receiver" "__init__") (HD.aM K "Pair" "__eq__") (HD.aM K "Sender" "__eq__") (HD.aM K "Receiver" "__eq__") where
  b := bl X G c
  d_is_integer_from := d_is_integer_from X G c
  d_is_below := d_is_below X G c
  d_is_none_or_below := d_is_none_or_below X G c
  d_is_list := d_is_list X G c
  d_check_number := d_check_number X G c
  d_check_counts := d_check_counts X G c
  d_state_count := d_state_count X G c
  d_checked_table := d_checked_table X G c
  d_are_states := d_are_states X G c
  d_are_gifts := d_are_gifts X G c
  d_counts := d_counts X G c
  d_check_pair := d_check_pair X G c
  l_message_table := by
    obtain ⟨fd, F⟩ := c.d.def_ 14 (d := HD.d14) rfl
    exact ⟨_, _, defL_of (tf := HD.tf) (x := "message_table") F (He.glo_ok X G (c.d.fact 16 (f := .glo "message_table") rfl)) (by simp [HD.tf]) (c.ex 41 (e := LW.distB HD.tf) rfl) (TB _ (List.mem_map.mpr ⟨("message_table", none), by simp [HD.tf], rfl⟩))⟩
  l_state_table := by
    obtain ⟨fd, F⟩ := c.d.def_ 15 (d := HD.d15) rfl
    exact ⟨_, _, defL_of (tf := HD.tf) (x := "state_table") F (He.glo_ok X G (c.d.fact 17 (f := .glo "state_table") rfl)) (by simp [HD.tf]) (c.ex 41 (e := LW.distB HD.tf) rfl) (TB _ (List.mem_map.mpr ⟨("state_table", none), by simp [HD.tf], rfl⟩))⟩
  l_hearing_table := by
    obtain ⟨fd, F⟩ := c.d.def_ 17 (d := HD.d17) rfl
    exact ⟨_, _, defL_of (tf := HD.tf) (x := "hearing_table") F (He.glo_ok X G (c.d.fact 19 (f := .glo "hearing_table") rfl)) (by simp [HD.tf]) (c.ex 41 (e := LW.distB HD.tf) rfl) (TB _ (List.mem_map.mpr ⟨("hearing_table", none), by simp [HD.tf], rfl⟩))⟩
  l_taking_table := by
    obtain ⟨fd, F⟩ := c.d.def_ 18 (d := HD.d18) rfl
    exact ⟨_, _, defL_of (tf := HD.tf) (x := "taking_table") F (He.glo_ok X G (c.d.fact 20 (f := .glo "taking_table") rfl)) (by simp [HD.tf]) (c.ex 41 (e := LW.distB HD.tf) rfl) (TB _ (List.mem_map.mpr ⟨("taking_table", none), by simp [HD.tf], rfl⟩))⟩
  l_giving_table := by
    obtain ⟨fd, F⟩ := c.d.def_ 20 (d := HD.d20) rfl
    exact ⟨_, _, defL_of (tf := HD.tf) (x := "giving_table") F (He.glo_ok X G (c.d.fact 22 (f := .glo "giving_table") rfl)) (by simp [HD.tf]) (c.ex 41 (e := LW.distB HD.tf) rfl) (TB _ (List.mem_map.mpr ⟨("giving_table", none), by simp [HD.tf], rfl⟩))⟩
  xS := ⟨He.cls_ok (c.d.fact 75 (f := .cls "Sender") rfl), He.glo_ok X G (c.d.fact 23 (f := .glo "Sender") rfl), He.mkr_ok (c.d.fact 76 (f := .mkr "Sender") rfl), fun f hf => by
    simp only [List.mem_cons, List.mem_nil_iff, or_false] at hf
    rcases hf with rfl | rfl | rfl | rfl | rfl | rfl | rfl | rfl
    · exact He.noat_ok (c.d.fact 84 (f := .noat "Sender" "_value_count") rfl)
    · exact He.noat_ok (c.d.fact 79 (f := .noat "Sender" "_forward") rfl)
    · exact He.noat_ok (c.d.fact 77 (f := .noat "Sender" "_backward") rfl)
    · exact He.noat_ok (c.d.fact 81 (f := .noat "Sender" "_sends") rfl)
    · exact He.noat_ok (c.d.fact 83 (f := .noat "Sender" "_ticks") rfl)
    · exact He.noat_ok (c.d.fact 80 (f := .noat "Sender" "_hears") rfl)
    · exact He.noat_ok (c.d.fact 82 (f := .noat "Sender" "_takes") rfl)
    · exact He.noat_ok (c.d.fact 78 (f := .noat "Sender" "_crashes") rfl)
    ⟩
  iS_ := by
    obtain ⟨fd, F⟩ := c.d.def_ 21 (d := HD.d21) rfl
    exact ⟨fd, F⟩
  eS := by
    obtain ⟨fd, F⟩ := c.d.def_ 22 (d := HD.d22) rfl
    exact ⟨fd, F⟩
  mS := He.meth_ok (c.d.fact 106 (f := .meth "Sender" "__eq__") rfl)
  cS := clsIB_ok (He.cls_ok (c.d.fact 75 (f := .cls "Sender") rfl)) (c.ex 18 (e := LW.clsIB "Sender") rfl)
  nS := neB_ok (c.ex 19 (e := LW.neB "Sender") rfl)
  pS_value_count := by
    obtain ⟨fd, F⟩ := c.get 0 (d := HD.p0) rfl
    exact ⟨_, _, fd, propB_ok (c.ex 0 (e := WH.propB "Sender" "value_count") rfl), F⟩
  pS_forward := by
    obtain ⟨fd, F⟩ := c.get 1 (d := HD.p1) rfl
    exact ⟨_, _, fd, propB_ok (c.ex 1 (e := WH.propB "Sender" "forward") rfl), F⟩
  pS_backward := by
    obtain ⟨fd, F⟩ := c.get 2 (d := HD.p2) rfl
    exact ⟨_, _, fd, propB_ok (c.ex 2 (e := WH.propB "Sender" "backward") rfl), F⟩
  pS_sends := by
    obtain ⟨fd, F⟩ := c.get 3 (d := HD.p3) rfl
    exact ⟨_, _, fd, propB_ok (c.ex 3 (e := WH.propB "Sender" "sends") rfl), F⟩
  pS_ticks := by
    obtain ⟨fd, F⟩ := c.get 4 (d := HD.p4) rfl
    exact ⟨_, _, fd, propB_ok (c.ex 4 (e := WH.propB "Sender" "ticks") rfl), F⟩
  pS_hears := by
    obtain ⟨fd, F⟩ := c.get 5 (d := HD.p5) rfl
    exact ⟨_, _, fd, propB_ok (c.ex 5 (e := WH.propB "Sender" "hears") rfl), F⟩
  pS_takes := by
    obtain ⟨fd, F⟩ := c.get 6 (d := HD.p6) rfl
    exact ⟨_, _, fd, propB_ok (c.ex 6 (e := WH.propB "Sender" "takes") rfl), F⟩
  pS_crashes := by
    obtain ⟨fd, F⟩ := c.get 7 (d := HD.p7) rfl
    exact ⟨_, _, fd, propB_ok (c.ex 7 (e := WH.propB "Sender" "crashes") rfl), F⟩
  xR := ⟨He.cls_ok (c.d.fact 85 (f := .cls "Receiver") rfl), He.glo_ok X G (c.d.fact 24 (f := .glo "Receiver") rfl), He.mkr_ok (c.d.fact 86 (f := .mkr "Receiver") rfl), fun f hf => by
    simp only [List.mem_cons, List.mem_nil_iff, or_false] at hf
    rcases hf with rfl | rfl | rfl | rfl | rfl | rfl | rfl | rfl
    · exact He.noat_ok (c.d.fact 94 (f := .noat "Receiver" "_value_count") rfl)
    · exact He.noat_ok (c.d.fact 89 (f := .noat "Receiver" "_forward") rfl)
    · exact He.noat_ok (c.d.fact 87 (f := .noat "Receiver" "_backward") rfl)
    · exact He.noat_ok (c.d.fact 92 (f := .noat "Receiver" "_sends") rfl)
    · exact He.noat_ok (c.d.fact 93 (f := .noat "Receiver" "_ticks") rfl)
    · exact He.noat_ok (c.d.fact 91 (f := .noat "Receiver" "_hears") rfl)
    · exact He.noat_ok (c.d.fact 90 (f := .noat "Receiver" "_gives") rfl)
    · exact He.noat_ok (c.d.fact 88 (f := .noat "Receiver" "_crashes") rfl)
    ⟩
  iR_ := by
    obtain ⟨fd, F⟩ := c.d.def_ 23 (d := HD.d23) rfl
    exact ⟨fd, F⟩
  eR := by
    obtain ⟨fd, F⟩ := c.d.def_ 24 (d := HD.d24) rfl
    exact ⟨fd, F⟩
  mR := He.meth_ok (c.d.fact 107 (f := .meth "Receiver" "__eq__") rfl)
  cR := clsIB_ok (He.cls_ok (c.d.fact 85 (f := .cls "Receiver") rfl)) (c.ex 22 (e := LW.clsIB "Receiver") rfl)
  nR := neB_ok (c.ex 23 (e := LW.neB "Receiver") rfl)
  pR_value_count := by
    obtain ⟨fd, F⟩ := c.get 8 (d := HD.p8) rfl
    exact ⟨_, _, fd, propB_ok (c.ex 8 (e := WH.propB "Receiver" "value_count") rfl), F⟩
  pR_forward := by
    obtain ⟨fd, F⟩ := c.get 9 (d := HD.p9) rfl
    exact ⟨_, _, fd, propB_ok (c.ex 9 (e := WH.propB "Receiver" "forward") rfl), F⟩
  pR_backward := by
    obtain ⟨fd, F⟩ := c.get 10 (d := HD.p10) rfl
    exact ⟨_, _, fd, propB_ok (c.ex 10 (e := WH.propB "Receiver" "backward") rfl), F⟩
  pR_sends := by
    obtain ⟨fd, F⟩ := c.get 11 (d := HD.p11) rfl
    exact ⟨_, _, fd, propB_ok (c.ex 11 (e := WH.propB "Receiver" "sends") rfl), F⟩
  pR_ticks := by
    obtain ⟨fd, F⟩ := c.get 12 (d := HD.p12) rfl
    exact ⟨_, _, fd, propB_ok (c.ex 12 (e := WH.propB "Receiver" "ticks") rfl), F⟩
  pR_hears := by
    obtain ⟨fd, F⟩ := c.get 13 (d := HD.p13) rfl
    exact ⟨_, _, fd, propB_ok (c.ex 13 (e := WH.propB "Receiver" "hears") rfl), F⟩
  pR_gives := by
    obtain ⟨fd, F⟩ := c.get 14 (d := HD.p14) rfl
    exact ⟨_, _, fd, propB_ok (c.ex 14 (e := WH.propB "Receiver" "gives") rfl), F⟩
  pR_crashes := by
    obtain ⟨fd, F⟩ := c.get 15 (d := HD.p15) rfl
    exact ⟨_, _, fd, propB_ok (c.ex 15 (e := WH.propB "Receiver" "crashes") rfl), F⟩
  xP := ⟨He.cls_ok (c.d.fact 95 (f := .cls "Pair") rfl), He.glo_ok X G (c.d.fact 26 (f := .glo "Pair") rfl), He.mkr_ok (c.d.fact 96 (f := .mkr "Pair") rfl), fun f hf => by
    simp only [List.mem_cons, List.mem_nil_iff, or_false] at hf
    rcases hf with rfl | rfl
    · exact He.noat_ok (c.d.fact 98 (f := .noat "Pair" "_sender") rfl)
    · exact He.noat_ok (c.d.fact 97 (f := .noat "Pair" "_receiver") rfl)
    ⟩
  iP_ := by
    obtain ⟨fd, F⟩ := c.d.def_ 26 (d := HD.d26) rfl
    exact ⟨fd, F⟩
  eP := by
    obtain ⟨fd, F⟩ := c.d.def_ 27 (d := HD.d27) rfl
    exact ⟨fd, F⟩
  mP := He.meth_ok (c.d.fact 108 (f := .meth "Pair" "__eq__") rfl)
  cP := clsIB_ok (He.cls_ok (c.d.fact 95 (f := .cls "Pair") rfl)) (c.ex 26 (e := LW.clsIB "Pair") rfl)
  nP := neB_ok (c.ex 27 (e := LW.neB "Pair") rfl)
  pP_sender := by
    obtain ⟨fd, F⟩ := c.get 16 (d := HD.p16) rfl
    exact ⟨_, _, fd, propB_ok (c.ex 16 (e := WH.propB "Pair" "sender") rfl), F⟩
  pP_receiver := by
    obtain ⟨fd, F⟩ := c.get 17 (d := HD.p17) rfl
    exact ⟨_, _, fd, propB_ok (c.ex 17 (e := WH.propB "Pair" "receiver") rfl), F⟩
  ap := apart c
theorem hdt {K : PySem.W.Frag} {h : Heap} {mg : Str → Option Value} (X : K.In h) (G : h.Ns mainGlobals mg) (c : WH.SaysW HD.fa HD.fn HD.pa HD.tf HD.exs h K) : HdT K mg (HD.aC K "Talk") (HD.aM K "Talk" "__init__") where
  xT := ⟨He.cls_ok (c.d.fact 99 (f := .cls "Talk") rfl), He.glo_ok X G (c.d.fact 29 (f := .glo "Talk") rfl), He.mkr_ok (c.d.fact 100 (f := .mkr "Talk") rfl), fun f hf => by
    simp only [List.mem_cons, List.mem_nil_iff, or_false] at hf
    rcases hf with rfl | rfl | rfl | rfl | rfl
    · exact He.noat_ok (c.d.fact 105 (f := .noat "Talk" "sender_tables") rfl)
    · exact He.noat_ok (c.d.fact 103 (f := .noat "Talk" "receiver_tables") rfl)
    · exact He.noat_ok (c.d.fact 104 (f := .noat "Talk" "sender_state") rfl)
    · exact He.noat_ok (c.d.fact 102 (f := .noat "Talk" "receiver_state") rfl)
    · exact He.noat_ok (c.d.fact 101 (f := .noat "Talk" "channels") rfl)
    ⟩
  iT_ := by
    obtain ⟨fd, F⟩ := c.d.def_ 30 (d := HD.d30) rfl
    exact ⟨fd, F⟩
  t_is_free := by
    obtain ⟨fd, F⟩ := c.d.def_ 31 (d := HD.d31) rfl
    exact ⟨_, fd, He.meth_ok (c.d.fact 109 (f := .meth "Talk" "is_free") rfl), F⟩
  t_allows := by
    obtain ⟨fd, F⟩ := c.d.def_ 32 (d := HD.d32) rfl
    exact ⟨_, fd, He.meth_ok (c.d.fact 110 (f := .meth "Talk" "allows") rfl), F⟩
  t_step := by
    obtain ⟨fd, F⟩ := c.d.def_ 33 (d := HD.d33) rfl
    exact ⟨_, fd, He.meth_ok (c.d.fact 111 (f := .meth "Talk" "step") rfl), F⟩
  t_send := by
    obtain ⟨fd, F⟩ := c.d.def_ 34 (d := HD.d34) rfl
    exact ⟨_, fd, He.meth_ok (c.d.fact 112 (f := .meth "Talk" "send") rfl), F⟩
  t_answer := by
    obtain ⟨fd, F⟩ := c.d.def_ 35 (d := HD.d35) rfl
    exact ⟨_, fd, He.meth_ok (c.d.fact 113 (f := .meth "Talk" "answer") rfl), F⟩
  t_pass_forward := by
    obtain ⟨fd, F⟩ := c.d.def_ 36 (d := HD.d36) rfl
    exact ⟨_, fd, He.meth_ok (c.d.fact 114 (f := .meth "Talk" "pass_forward") rfl), F⟩
  t_pass_backward := by
    obtain ⟨fd, F⟩ := c.d.def_ 37 (d := HD.d37) rfl
    exact ⟨_, fd, He.meth_ok (c.d.fact 115 (f := .meth "Talk" "pass_backward") rfl), F⟩
  t_crash := by
    obtain ⟨fd, F⟩ := c.d.def_ 38 (d := HD.d38) rfl
    exact ⟨_, fd, He.meth_ok (c.d.fact 116 (f := .meth "Talk" "crash") rfl), F⟩
  ch := tup1B_ok (c.ex 42 (e := LW.tup1B "CHANNELS" ["forward", "backward"]) rfl) (He.glo_ok X G (c.d.fact 61 (f := .glo "CHANNELS") rfl))
  pl := tup2B_ok (c.ex 43 (e := LW.tup2B "PLAIN_EVENTS" [["send"], ["answer"], ["pass", "forward"], ["pass", "backward"], ["crash", "sender"], ["crash", "receiver"]]) rfl) (He.glo_ok X G (c.d.fact 62 (f := .glo "PLAIN_EVENTS") rfl))
  d_is_event := d_is_event X G c
  d_moment_of := d_moment_of X G c
  d_check_events := d_check_events X G c
  d_walk := d_walk X G c
  d_walked := d_walked X G c
  d_delivered := d_delivered X G c
  d_possible := d_possible X G c
theorem tabs0 {K : PySem.W.Frag} {H : Hp} {tf : List He.Defn} (h : ∀ p ∈ tf.map (He.cT K), H p.2 = some (.tbl #[])) : Tabs (tabsT K tf) H := fun p hp => by
  obtain ⟨q, hq, rfl⟩ := List.mem_map.mp hp
  refine ⟨#[], h _ (List.mem_map.mpr ⟨q, hq, rfl⟩), ?_, fun pos cv z => ?_⟩
  · unfold TriplesOk
    trivial
  · unfold codeAmong at z
    cases z
theorem facts {w : World} {K : PySem.W.Frag} {h : Heap} {mg : Str → Option Value} {f : Addr} (X : K.In h) (G : h.Ns mainGlobals mg) (hfa : mg ("law" : Str) = some (.ref f)) (c : WH.SaysW HD.fa HD.fn HD.pa HD.tf HD.exs h K) :
    LamX.LawAtS PySem.Challenge.rw_wipedtalk_k05_runs_walked w K L2.CX0 14 63 "script" mg f h := by
  obtain ⟨fd, F⟩ := c.d.def_ 69 (d := HD.d69) rfl
  have e := hfa.symm.trans (He.glo_ok X G (c.d.fact 60 (f := .glo "law") rfl))
  cases e
  have b := FunD.bindsA (ps := ["script"]) F fun _ _ _ _ _ _ us hl => match us, hl with | [_], _ => rfl
  refine ⟨fd, HD.tf.map (He.cT K), SpLaw (HD.tT K) K, fun p hp => ?_, fun p hp => ?_, fun p hp => ?_, fun s v => b s [v] rfl, fun H a ns hl _ hT hS => ⟨a, ns, rfl, hS, hl, tabs0 hT, fun _ => rfl⟩, fun base KB GB TB => ?_⟩
  · obtain ⟨q, hq, rfl⟩ := List.mem_map.mp hp
    exact c.empty q hq
  · obtain ⟨q, hq, rfl⟩ := List.mem_map.mp hp
    exact c.out q hq
  · obtain ⟨q, hq, rfl⟩ := List.mem_map.mp hp
    exact PySem.W.codeHd_of_K X (c.hd q hq)
  · have g : Pg (PySem.Challenge.rw_wipedtalk_k05_runs_walked).prog w K mg base (HD.tT K) (HD.aC K "Pair") (HD.aC K "Sender") (HD.aC K "Receiver") (HD.aM K "Pair" "__eq__") (HD.aM K "Sender" "__eq__") (HD.aM K "Receiver" "__eq__") := pg_of (hdp X G c TB)
    exact law_k05 F g (hdt X G c) (fr_min X G c) (fr_max X G c) (d_law_mixed X G c) (d_law_purse X G c) (d_law_draw X G c) (d_law_row X G c) (d_law_falls X G c) (d_law_letters X G c) (d_law_sender X G c) (d_law_receiver X G c) (d_law_turns X G c) (d_law_greets X G c) (d_law_repeats X G c) (d_law_raw X G c) (d_law_made_sender X G c) (d_law_made_receiver X G c) (d_law_made X G c) (d_law_tick X G c) (d_law_step X G c) (d_law_deeds X G c) (d_law_led X G c) (d_law_walk X G c) (d_law_duos X G c) (d_law_run_right X G c) (d_law_right X G c)
end HD
open PySem PySem.W PySem.Calls PyProof.Rows
theorem PySem.Challenge.cw_wipedtalk_k05_runs_walked_holds : PySem.Challenge.rw_wipedtalk_k05_runs_walked.Holds := by
  w_on; o_law
  refine HandSHeadRun.head_any (r := OpenLaw.row PySem.Challenge.rw_wipedtalk_k05_runs_walked) (q := view (OpenLaw.row PySem.Challenge.rw_wipedtalk_k05_runs_walked).prog [67]) (H := HD.hk) (ob := HD.ob) (M := 8000) (loose := HD.nms) (d := HandSHeadRun.topDef (OpenLaw.row PySem.Challenge.rw_wipedtalk_k05_runs_walked).prog 67) (kwd := []) HD.ob_eq
    (by kernel_rfl) (fun s => by kernel_rfl) HD.run (by kernel_rfl) (by kernel_rfl) (by kernel_rfl) (by rfl) (by first | assumption | decide +kernel) (by decide +kernel) ⟨rfl, rfl, rfl, rfl, rfl, by decide +kernel⟩ ?hw ?hc
  case hw => w_witness2
  case hc =>
    refine LamX.walk_ofTsE (l := PySem.Challenge.rw_wipedtalk_k05_runs_walked) (n := 63) (k := 14) (x := "script") (CX := fun _ => L2.CX0) rfl (by decide) (by kernel_rfl) ⟨rfl, by decide, by decide⟩ ?F (fun _ _ _ _ _ z => z)
    intro w mg fa h Y G hmg0
    obtain ⟨K, KX, c⟩ := Y
    have hmg : mg ("law" : PySem.Str) = some (.ref fa) := by
      have e : (HandSHeadRun.topDef (OpenLaw.row PySem.Challenge.rw_wipedtalk_k05_runs_walked).prog 67).name = ("law" : PySem.Str) := by kernel_rfl
      rw [← e]
      exact hmg0
    exact ⟨K, KX, HD.facts KX G hmg c⟩

