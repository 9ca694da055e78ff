import PyProof.Rows.All
import Wide.All
import OpenK.AllK
import Wide.FinOn
import HandS.Text
import HandS.Iter
import HandS.Comp
import HandS.Set
import HandS.SetFor
import HandS.Strs
import PyProof.Rows.SortShellAny
import HandS.Style
import HandS.StrMore
import HandS.Wide
import HandS.WideBits
import HandS.RevRange
import HandS.IsInst
import HandS.Replace
import HandS.Conv
import HandS.Evl
import HandS.ForMost
import PyProof.ListStr
import KE.KRevSl
import HandS.Walk
import PySem.Challenge.RW_skipcounts_k04_whole_texts_numbered
import PyProof.StrLawsIn
import PyProof.Rows.StrCase
import HandS.Rev
import HandS.Zip
import KE.GoesZip
import KE.GoesEnum
import KE.GoesMore
import KE.SortData
import KE.DataCmp
import PyProof.StrBlock2
set_option Elab.async false
set_option linter.all false
set_option maxRecDepth 100000
set_option maxHeartbeats 4000000
/-! Sx: sets of texts: set(text), set(list of texts), sorted of such a set, its len -/
namespace Sx
open PySem PySem.Spec PyProof.Rows L2
section
variable {P : Program} {w : World} {κ : Type} [DecidableEq κ] {knd : PySem.KeyKind P w κ}
/-- what is known of the payload of a set: kn tells which keys are in, c how many -/
structure Pay (knd : PySem.KeyKind P w κ) (es : Array (Int × Value)) (t : SetTable) (kn : κ → Prop) (c : Nat) : Prop where
  el : ElemsOf knd es.toList
  mm : ∀ k, kn k ↔ ∃ e ∈ es.toList, knd.is k e.2 = true
  lt : es.size < scanBound
  ft : t.fits es.size = true
  sz : es.size = c
  ri : Ris t.place.toList
  ld : w.params.followText "set-order" = true ∨ t.led = true
def Has (knd : PySem.KeyKind P w κ) (h : Heap) (a : Addr) (kn : κ → Prop) (c : Nat) : Prop :=
  ∃ o es ep t, h.get? a = some o ∧ o.ExactSet ∧ o.data = .set es ep t ∧ Pay knd es t kn c
theorem Has.on {h h' : Heap} {a : Addr} {kn : κ → Prop} {c : Nat} (R : Has knd h a kn c) (k : ∀ o, h.get? a = some o → h'.get? a = some o) : Has knd h' a kn c :=
  let ⟨o, es, ep, t, ho, r⟩ := R
  ⟨o, es, ep, t, k o ho, r⟩
theorem Has.say {h : Heap} {a : Addr} {kn kn' : κ → Prop} {c c' : Nat} (R : Has knd h a kn c) (e : ∀ k, kn' k ↔ kn k) (ec : c' = c) : Has knd h a kn' c' := by
  obtain ⟨o, es, ep, t, ho, h1, h2, p⟩ := R
  exact ⟨o, es, ep, t, ho, h1, h2, ⟨p.el, fun k => (e k).trans (p.mm k), p.lt, p.ft, p.sz.trans ec.symm, p.ri, p.ld⟩⟩
end
section
variable {P : Program} {w : World} {κ : Type} [DecidableEq κ] {knd : PySem.KeyKind P w κ} {A : Around} {E : Value → Shared → Prop} {s : Shared} {a : Addr} {kn : κ → Prop} {c : Nat}
theorem store_put {h : Heap} {o : Obj} {es es' : Array (Int × Value)} {ep : Nat} {t t' : SetTable} (ho : h.get? a = some o) (hd : o.data = .set es ep t) :
    (h.update a (Obj.putSet es' t')).get? a = some { o with data := .set es' (ep + 1) t' } := L2.store_at ho hd
/-- the end of an add of something new -/
theorem tail_new {g : Bool → Sem Unit} (hg : ∀ (b : Bool) (s₁ : Shared) (Q' : Unit → Shared → Prop), Q' () s₁ → wpAny (model P w) A (g b) Q' E s₁)
    {o : Obj} {es : Array (Int × Value)} {ep : Nat} {t : SetTable} (ho : s.heap.get? a = some o) (hex : o.ExactSet) (hd : o.data = .set es ep t)
    {es1 : Array (Int × Value)} {t2 : SetTable} (p : Pay knd es1 t2 kn c) {dm : Bool} {R : Option Bool → Shared → Prop}
    (hR : ∀ h', Heap.SameBut a s.heap h' → Has knd h' a kn c → R (some true) { s with heap := h' }) :
    wpAny (model P w) A (do
        storeSet a es1 t2
        if (!dm && t2.tooFull) = true then do
            g (relayAll t2 es1 (SetTable.grown es1.size)).2.2
            storeSet a (relayAll t2 es1 (SetTable.grown es1.size)).1 (relayAll t2 es1 (SetTable.grown es1.size)).2.1
            pure (some true)
          else pure (some true)) R E s := by
  have sb := Heap.SameBut.update s.heap a (Obj.putSet es1 t2)
  refine wpAny_bind (wpAny_storeSet_of ho hd ?_ (fits_of_scanBound p.lt))
  have here := store_put (es' := es1) (t' := t2) ho hd
  split
  · have q1 := relayAll_perm t2 es1 (SetTable.grown es1.size)
    have q2 := relayAll_fits t2 es1 (SetTable.grown es1.size)
    have q3 := relayAll_ris t2 es1 (SetTable.grown es1.size)
    have q4 := relayAll_led t2 es1 (SetTable.grown es1.size)
    generalize relayAll t2 es1 (SetTable.grown es1.size) = Z at q1 q2 q3 q4 ⊢
    obtain ⟨es2, t3, gv⟩ := Z
    dsimp only at q1 q2 q3 q4 ⊢
    have zz : es2.size = es1.size := by rw [← Array.length_toList, q1.length_eq, Array.length_toList]
    have lt2 : es2.size < scanBound := by rw [zz]; exact p.lt
    refine wpAny_bind (hg _ _ _ ?_)
    refine wpAny_bind (wpAny_storeSet_of here rfl ?_ (fits_of_scanBound lt2))
    have there := store_put (es' := es2) (t' := t3) here rfl
    refine wpAny_pure (hR _ (sb.trans (Heap.SameBut.update _ a _)) ⟨_, es2, _, t3, there, hex, rfl, p.el.perm q1, fun k => (p.mm k).trans ?_, lt2, q2, zz.trans p.sz, q3, p.ld.imp id fun z => by rw [q4]; exact z⟩)
    exact ⟨fun ⟨e, he, x⟩ => ⟨e, q1.mem_iff.mpr he, x⟩, fun ⟨e, he, x⟩ => ⟨e, q1.mem_iff.mp he, x⟩⟩
  · exact wpAny_pure (hR _ sb ⟨_, es1, _, t2, here, hex, rfl, p⟩)
/-- one more key: the count goes up if it was not in -/
theorem add_one {k : κ} {x : Value} {Q : Bool → Shared → Prop} (hk : knd.is k x = true) (hx : x.scannable = true) (R : Has knd s.heap a kn c) (room : c + 1 < scanBound)
    (hin : kn k → ∀ h', Heap.SameBut a s.heap h' → Has knd h' a kn c → Q false { s with heap := h' })
    (hnew : ¬ kn k → ∀ h', Heap.SameBut a s.heap h' → Has knd h' a (fun j => kn j ∨ j = k) (c + 1) → Q true { s with heap := h' }) :
    wpAny (model P w) A (setAddHashed a x (knd.hash k)) Q E s := by
  obtain ⟨o, es, ep, t, ho, hex, hd, p⟩ := R
  unfold setAddHashed setAddHashedIn
  refine wpAny_holding (wpAny_bind (wpAny_setState_of ho hd p.ft ?_))
  dsimp only
  rw [byScan_of hx p.lt p.el]
  simp only [↓reduceIte]
  unfold setAddByScan
  refine wpAny_bind (wpAny_bind (wpAny_rule ?_))
  refine wpAny_bind (wpAny_setScan_of hk ho hd p.ft p.el ?_)
  cases hf : List.findIdx? (fun e => knd.is k e.2) es.toList with
  | some j =>
    dsimp only
    obtain ⟨lj, pj, _⟩ := List.findIdx?_eq_some_iff_getElem.mp hf
    refine wpAny_pure (wpAny_pure ?_)
    exact hin ((p.mm k).mpr ⟨es.toList[j], List.getElem_mem lj, pj⟩) s.heap (Heap.SameBut.refl a s.heap) ⟨o, es, ep, t, ho, hex, hd, p⟩
  | none =>
    dsimp only
    have out : ¬ kn k := fun z => by
      obtain ⟨e, he, hp⟩ := (p.mm k).mp z
      have := List.findIdx?_eq_none_iff.mp hf e he
      rw [hp] at this
      exact Bool.noConfusion this
    have gw : ∀ (b : Bool) {s₁ : Shared} {Q' : Unit → Shared → Prop}, Q' () s₁ → wpAny (model P w) A (match b with | true => rule "set.scan.the-table-gave-way" | false => pure ()) Q' E s₁ := by
      intro b s₁ Q' q
      cases b
      · exact wpAny_pure q
      · exact wpAny_rule q
    have q1 := layNew_perm t es (knd.hash k) x
    have q2 := layNew_fits t es (knd.hash k) x
    have q3 := layNew_ris t es (knd.hash k) x p.ri
    have q4 := layNew_led t es (knd.hash k) x
    generalize layNew t es (knd.hash k) x = L at q1 q2 q3 q4 ⊢
    obtain ⟨es1, t1, dm, gv⟩ := L
    dsimp only at q1 q2 q3 q4 ⊢
    rw [Array.toList_push] at q1
    have z1 : es1.size = c + 1 := by
      rw [← Array.length_toList, q1.length_eq, List.length_append, Array.length_toList, p.sz]
      rfl
    have mm1 : ∀ j, (kn j ∨ j = k) ↔ ∃ e ∈ es1.toList, knd.is j e.2 = true := by
      intro j
      constructor
      · rintro (z | rfl)
        · obtain ⟨e, he, q⟩ := (p.mm j).mp z
          exact ⟨e, q1.mem_iff.mpr (List.mem_append_left _ he), q⟩
        · exact ⟨_, q1.mem_iff.mpr (List.mem_append_right _ (List.mem_singleton.mpr rfl)), hk⟩
      · rintro ⟨e, he, q⟩
        rcases List.mem_append.mp (q1.mem_iff.mp he) with z | z
        · exact Or.inl ((p.mm j).mpr ⟨e, z, q⟩)
        · rw [List.mem_singleton] at z
          rw [z] at q
          exact Or.inr (knd.inj x j k q hk)
    have py : ∀ t' : SetTable, t'.fits es1.size = true → Ris t'.place.toList → t'.led = t1.led → Pay knd es1 t' (fun j => kn j ∨ j = k) (c + 1) := fun t' f r l =>
      ⟨(p.el.push hk hx).perm q1, mm1, by rw [z1]; exact room, f, z1, r, p.ld.imp id fun z => by rw [l, q4]; exact z⟩
    refine wpAny_bind (gw _ ?_)
    split
    · refine wpAny_bind ?_
      rw [hashByValue_scannable 8 hx]
      refine wpAny_pure ?_
      refine tail_new (knd := knd) (kn := fun j => kn j ∨ j = k) (c := c + 1) ?_ ho hex hd (py _ ?_ ?_ ?_) ?_
      · intro b s₁ Q' q
        cases b
        · exact wpAny_pure q
        · exact wpAny_rule q
      · split
        · exact q2
        · exact SetTable.fits_plain_off q2
      · split <;> exact q3
      · split <;> rfl
      · intro h' sb r
        dsimp only
        exact wpAny_pure (hnew out h' sb r)
    · refine wpAny_bind (wpAny_pure ?_)
      simp only [↓reduceIte]
      refine tail_new (knd := knd) (kn := fun j => kn j ∨ j = k) (c := c + 1) ?_ ho hex hd (py _ q2 q3 rfl) ?_
      · intro b s₁ Q' q
        cases b
        · exact wpAny_pure q
        · exact wpAny_rule q
      · intro h' sb r
        dsimp only
        exact wpAny_pure (hnew out h' sb r)
theorem has_fresh {h : Heap} : Has knd (h.push { cls := .type "set", dict := none, data := .set #[] 0 (.fresh 0 0 (!w.params.followText "set-order")) }) h.objs.size (fun _ => False) 0 :=
  ⟨_, #[], 0, _, Heap.get?_push_size _ rfl, ⟨rfl, rfl, rfl⟩, rfl, (fun e he => by simp at he), (fun k => by simp), (by decide), (by rfl), rfl, List.Pairwise.nil, by
    show _ ∨ (!w.params.followText "set-order") = true
    cases w.params.followText "set-order"
    · exact Or.inr rfl
    · exact Or.inl rfl⟩
end
end Sx
set_option Elab.async false
set_option linter.all false
set_option maxRecDepth 100000
set_option maxHeartbeats 4000000
namespace Sx
open PySem PySem.Spec PyProof.Rows L2
/-- the unlike ones of a list, each where it comes first -/
def uniq {κ : Type} [DecidableEq κ] : List κ → List κ → List κ
  | acc, [] => acc
  | acc, k :: r => uniq (if k ∈ acc then acc else acc ++ [k]) r
theorem uniq_mem {κ : Type} [DecidableEq κ] : ∀ (ks acc : List κ) (k : κ), k ∈ uniq acc ks ↔ k ∈ acc ∨ k ∈ ks
  | [], acc, k => by simp [uniq]
  | x :: r, acc, k => by
    rw [uniq, uniq_mem r]
    by_cases h : x ∈ acc
    · rw [if_pos h]
      constructor
      · rintro (z | z)
        · exact Or.inl z
        · exact Or.inr (List.mem_cons_of_mem _ z)
      · rintro (z | z)
        · exact Or.inl z
        · rcases List.mem_cons.mp z with e | e
          · subst e; exact Or.inl h
          · exact Or.inr e
    · rw [if_neg h, List.mem_append, List.mem_singleton, List.mem_cons, or_assoc]
theorem uniq_nodup {κ : Type} [DecidableEq κ] : ∀ (ks acc : List κ), acc.Nodup → (uniq acc ks).Nodup
  | [], acc, h => h
  | x :: r, acc, h => by
    rw [uniq]
    apply uniq_nodup r
    by_cases g : x ∈ acc
    · rw [if_pos g]; exact h
    · rw [if_neg g]
      rw [List.nodup_append]
      refine ⟨h, by simp, fun a ha b hb => ?_⟩
      rw [List.mem_singleton] at hb
      subst hb
      exact fun e => g (e ▸ ha)
theorem uniq_len {κ : Type} [DecidableEq κ] : ∀ (ks acc : List κ), (uniq acc ks).length ≤ acc.length + ks.length
  | [], acc => by simp [uniq]
  | x :: r, acc => by
    rw [uniq]
    have q := uniq_len r (if x ∈ acc then acc else acc ++ [x])
    have z : (if x ∈ acc then acc else acc ++ [x]).length ≤ acc.length + 1 := by
      split
      · omega
      · simp
    simp only [List.length_cons]
    omega
theorem uniq_snoc {κ : Type} [DecidableEq κ] : ∀ (ks acc : List κ) (k : κ), uniq acc (ks ++ [k]) = if k ∈ uniq acc ks then uniq acc ks else uniq acc ks ++ [k]
  | [], acc, k => rfl
  | x :: r, acc, k => by
    rw [List.cons_append, uniq, uniq_snoc r, uniq]
/-- all unlike exactly if none goes -/
theorem uniq_all {κ : Type} [DecidableEq κ] : ∀ (ks acc : List κ), acc.Nodup → ((uniq acc ks).length = acc.length + ks.length ↔ (acc ++ ks).Nodup)
  | [], acc, h => by simp [uniq, h]
  | x :: r, acc, h => by
    rw [uniq]
    by_cases g : x ∈ acc
    · rw [if_pos g]
      have q := uniq_len r acc
      constructor
      · intro z
        simp only [List.length_cons] at z
        omega
      · intro z
        rw [List.nodup_append] at z
        exact absurd rfl (z.2.2 x g x List.mem_cons_self)
    · rw [if_neg g]
      have hn : (acc ++ [x]).Nodup := by
        rw [List.nodup_append]
        refine ⟨h, by simp, fun a ha b hb => ?_⟩
        rw [List.mem_singleton] at hb
        subst hb
        exact fun e => g (e ▸ ha)
      have q := uniq_all r (acc ++ [x]) hn
      rw [List.append_assoc] at q
      simp only [List.length_append, List.length_cons, List.length_nil] at q ⊢
      rw [← show acc ++ x :: r = acc ++ ([x] ++ r) from rfl] at q
      rw [← q]
      omega
section
variable {P : Program} {w : World} {κ : Type} [DecidableEq κ] {knd : PySem.KeyKind P w κ} {A : Around} {E : Value → Shared → Prop} {s : Shared}
/-- the keys l, all unlike, are what the set at a has -/
def Lst (knd : PySem.KeyKind P w κ) (h : Heap) (a : Addr) (l : List κ) : Prop := Has knd h a (fun k => k ∈ l) l.length
theorem add_lst {a : Addr} {l : List κ} {k : κ} {x : Value} {Q : Bool → Shared → Prop} (hk : knd.is k x = true) (hx : x.scannable = true) (R : Lst knd s.heap a l) (room : l.length + 1 < scanBound)
    (hQ : ∀ (b : Bool) h', Heap.SameBut a s.heap h' → Lst knd h' a (if k ∈ l then l else l ++ [k]) → Q b { s with heap := h' }) :
    wpAny (model P w) A (setAddHashed a x (knd.hash k)) Q E s := by
  refine add_one (knd := knd) hk hx R room (fun hin h' sb hS2 => hQ _ h' sb ?_) (fun hnew h' sb hS2 => hQ _ h' sb ?_)
  · rw [if_pos hin]
    exact hS2
  · rw [if_neg hnew]
    refine Has.say hS2 (fun j => ?_) (by rw [List.length_append]; rfl)
    rw [List.mem_append, List.mem_singleton]
theorem upd_loop {I : Addr} {fp wr : List Addr} {G : Array GenState → Array GenState → Prop} {n : Nat} {Pv : Nat → Value → Prop} {St : Nat → Shared → Prop} {R : Result → Shared → Prop}
    (W : WalksS P w A.in1 I fp wr G n Pv St) (S : Addr) (out : S ∉ fp) (ks : List κ) (hn : n = ks.length) (hb : ks.length + 1 < scanBound) (hval : ∀ i v, Pv i v → ∃ k, ks[i]? = some k ∧ knd.is k v = true ∧ v.scannable = true) :
    ∀ (k i : Nat) (s : Shared), n - i = k → i ≤ n → St i s → Lst knd s.heap S (uniq [] (ks.take i)) →
      (∀ s', Moved (S :: wr) G s s' → Lst knd s'.heap S (uniq [] ks) → R (.ok (.ret .none)) s') →
      codeAny (model P w) A (.builtin "set.update.loop" ⟨[.ref S, .ref I], []⟩) R s := by
  have hw : S ∉ wr := fun h => out (W.sub _ h)
  have sub : ∀ b ∈ wr, b ∈ S :: wr := fun b hb => List.mem_cons_of_mem _ hb
  intro k
  induction k with
  | zero =>
    intro i s hk hi hst hS hR
    have e0 : i = n := by omega
    subst e0
    refine codeAny_builtin F.entry_set_update_loop ?_
    rw [Around.under_plainId F.plain_set_update_loop _]
    show wpAny _ A.in1 (pyNext (.ref I) >>= _) _ _ s
    refine wpAny_bind (W.done s _ _ hst fun s' hm => ?_)
    show wpAny _ A.in1 (ret Value.none) _ _ s'
    rw [List.take_of_length_le (by omega)] at hS
    exact wpAny_pure (hR s' (hm.mono sub) (Has.on hS fun o e => hm.heap S o hw e))
  | succ k ih =>
    intro i s hk hi hst hS hR
    have lt : i < n := by omega
    refine codeAny_builtin F.entry_set_update_loop ?_
    rw [Around.under_plainId F.plain_set_update_loop _]
    show wpAny _ A.in1 (pyNext (.ref I) >>= _) _ _ s
    refine wpAny_bind (W.item i s _ _ lt hst fun v s' hP hst' hm => ?_)
    obtain ⟨z, hz, iz, sv⟩ := hval i v hP
    have hS' : Lst knd s'.heap S (uniq [] (ks.take i)) := Has.on hS fun o e => hm.heap S o hw e
    show wpAny _ A.in1 (holding [v] (setAdd S v) >>= _) _ _ s'
    refine wpAny_bind (wpAny_holding ?_)
    unfold setAdd
    refine wpAny_holding ?_
    refine wpAny_bind (knd.pyHash (k := z) iz ?_)
    have ln := uniq_len (ks.take i) []
    rw [List.length_take, List.length_nil] at ln
    have tk : ks.take (i + 1) = ks.take i ++ [z] := by
      rw [List.take_add_one, hz]
      rfl
    refine add_lst (s := { s' with toks := s'.toks + 1 }) iz sv hS' (by omega) fun bb h' sb hS2 => ?_
    have hS3 : Lst knd h' S (uniq [] (ks.take (i + 1))) := by
      rw [tk, uniq_snoc]
      exact hS2
    refine wpAny_pure ⟨plainId_quiet F.plain_set_update_loop _, ih (i + 1) _ (by omega) lt (W.frame _ s' _ _ hst' (Nat.le_succ _) fun b hb o e => ?_) hS3 fun s'' hm2 hS4 => ?_⟩
    · rw [sb.2 b (fun h : b = S => out (by rw [← h]; exact hb))]; exact e
    · refine hR s'' (Moved.trans W.gtrans ((hm.mono sub).then_heap (Nat.le_succ _) fun b o hb e => ?_) hm2) hS4
      rw [sb.2 b (fun h : b = S => hb (by rw [h]; exact List.mem_cons_self))]; exact e
end
end Sx
set_option Elab.async false
set_option linter.all false
set_option maxRecDepth 100000
set_option maxHeartbeats 4000000
namespace Sx
open PySem PySem.Spec PyProof.Rows L2
section
variable {P : Program} {w : World} {A : Around} {E : Value → Shared → Prop} {s : Shared}
abbrev kT (P : Program) (w : World) : PySem.KeyKind P w Str := PySem.strKind P w
abbrev nset (w : World) : Obj := { cls := .type "set", dict := none, data := .set #[] 0 (.fresh 0 0 (!w.params.followText "set-order")) }
theorem lst_new {h : Heap} {a : Addr} (ho : h.get? a = some (nset w)) : Lst (kT P w) h a [] :=
  ⟨_, #[], 0, _, ho, ⟨rfl, rfl, rfl⟩, rfl, (fun e he => by simp at he), (fun k => by simp), (by decide), (by rfl), rfl, List.Pairwise.nil, by
    show _ ∨ (!w.params.followText "set-order") = true
    cases w.params.followText "set-order"
    · exact Or.inr rfl
    · exact Or.inl rfl⟩
theorem is_txt (k : Str) (u : Tok) : (kT P w).is k (.str k u) = true := by
  show Value.isStrOf k (.str k u) = true
  simp [Value.isStrOf]
/-- the signs of a text, each as a text -/
def sgs (x : Str) : List Str := x.cps.toList.map fun c => ⟨#[c]⟩
set_option maxRecDepth 100000 in
set_option maxHeartbeats 8000000 in
theorem set_of_text {x : Str} {t : Tok} {Q : Value → Shared → Prop} (hh : A.handled = none) (ha : x.cps.all (· < 128) = true) (hb : x.cps.size + 1 < scanBound)
    (h : ∀ (h' : Heap) (tk : Nat), Lst (kT P w) h' s.heap.objs.size (uniq [] (sgs x)) → (∀ b o, s.heap.get? b = some o → h'.get? b = some o) → Q (.ref s.heap.objs.size) { s with heap := h', toks := tk }) :
    wpAny (model P w) A (call (.type "set") [.str x t]) Q E s := by
  obtain ⟨c, tl, hmro⟩ := F.called_set.mro
  have hmade := F.called_set.made
  have hsub := F.called_set.sub
  refine wpAny_call (codeAny_of_tree ?_)
  show wpAny _ _ (callAny (.type "set") _) _ _ _
  refine wpAny_pure ⟨Code.quiet_builtin _ (by decide +kernel), codeAny_builtin F.entry_type_call ?_⟩
  rw [Around.under_plain (weight_type_call_type "set" [.str x t] []) rfl]
  have h1 := F.called_set.notType
  have h2 := F.called_set.canCreate
  have hct := F.typeCall_set_1 (.str x t)
  repeat (any_goals (first | assumption | wp_step))
  refine codeAny_mono (code_set_led1 (.str x t) (E := E) (Q₁ := fun obj s₁ => obj = .ref s.heap.objs.size ∧ s₁ = { s with heap := s.heap.push (nset w) }) ⟨rfl, rfl⟩) fun r s₁ hr => ?_
  cases r with
  | error e => exact hr
  | ok fl =>
    cases fl with
    | ret obj =>
      obtain ⟨rfl, rfl⟩ := hr
      have hS : (s.heap.push (nset w)).get? s.heap.objs.size = some (nset w) := Heap.get?_push_size _ rfl
      have hT : Shared.TypeIs { s with heap := s.heap.push (nset w) } (.ref s.heap.objs.size) "set" := ⟨_, hS, rfl⟩
      have hli := F.called_set.init.lookup
      have hbi := F.called_set.init.bind (.ref s.heap.objs.size)
      repeat (any_goals (first | assumption | wp_step))
      refine codeAny_mono (codeAny_call_builtin (R := wants (fun r s₂ => r = .none ∧ ∃ h' tk, s₂ = { s with heap := h', toks := tk } ∧ Lst (kT P w) h' s.heap.objs.size (uniq [] (sgs x)) ∧
          (∀ b o, s.heap.get? b = some o → h'.get? b = some o)) E) F.called_set.init.plain F.entry_set_init (check_set_init_1 hT ?_)) fun r₂ s₂ hr₂ => ?_
      · have hs1 := F.sub_str_set
        have hs2 := F.sub_str_frozenset
        have hne : (Value.type "str" == Value.type "dict") = false := by decide
        unfold Builtin.«set.__init__» noKeywords Builtin.Frozenset.updateFrom
        generalize hPI : pyIter = PI
        wp_walk
        subst hPI
        refine wpAny_pyIter_ascii ha ?_
        refine wpAny_bind (wpAny_runValue ?_)
        have hh3 : A.in1.in1.in1.handled = none := by simp [hh]
        have neI : s.heap.objs.size ∉ [(s.heap.push (nset w)).objs.size] := by
          rw [Heap.size_push, List.mem_singleton]
          exact Nat.ne_of_lt (Nat.lt_succ_self _)
        have hl : x.cps.size = (sgs x).length := by
          unfold sgs
          rw [List.length_map, Array.length_toList]
        refine upd_loop (knd := kT P w) ((Walks.strAscii hh3 _ x t).toS) s.heap.objs.size neI (sgs x) hl (by rw [← hl]; exact hb) (fun i v hv => ?_) (x.cps.size - 0) 0 _ (by omega) (Nat.zero_le _)
          ⟨_, Heap.get?_push_size _ rfl, rfl, rfl⟩ (lst_new (Heap.get?_push_of_some _ hS)) fun s' hm hS' => ?_
        · obtain ⟨c, u, hc, rfl⟩ := hv
          refine ⟨⟨#[c]⟩, ?_, is_txt _ _, rfl⟩
          unfold sgs
          rw [List.getElem?_map, Array.getElem?_toList, hc]
          rfl
        · obtain ⟨h', g2, d', tk', os'⟩ := s'
          have eg : g2 = s.gens := hm.gens
          have ed : d' = s.drawn := hm.drawn
          have eo : os' = s.os := hm.os
          subst eg; subst ed; subst eo
          show wpAny _ _ _ _ _ _
          refine wpAny_pure ?_
          show wpAny _ _ (ret Value.none) _ _ _
          refine wpAny_pure ⟨rfl, h', tk', rfl, hS', fun b o e => ?_⟩
          have b0 : b < s.heap.objs.size := Heap.lt_size e
          refine hm.heap b o (fun z => ?_) (Heap.get?_push_of_some _ (Heap.get?_push_of_some _ e))
          rcases List.mem_cons.mp z with z | z
          · rw [z] at b0
            exact Nat.lt_irrefl _ b0
          · rw [List.mem_singleton, Heap.size_push] at z
            rw [z] at b0
            exact Nat.lt_irrefl _ (Nat.lt_trans (Nat.lt_succ_self _) b0)
      · cases r₂ with
        | error e => exact hr₂
        | ok fl₂ =>
          cases fl₂ with
          | ret r =>
            obtain ⟨rfl, h', tk, rfl, hS', hk'⟩ := hr₂
            repeat (any_goals (first | assumption | wp_step))
            exact h _ _ hS' hk'
          | _ => exact hr₂.elim
    | _ => exact hr.elim
set_option maxRecDepth 100000 in
set_option maxHeartbeats 8000000 in
theorem set_of_list {l : Addr} {items : Array Value} {xs : List Str} {Q : Value → Shared → Prop} (hh : A.handled = none) (hl : s.heap.IsList l items) (hit : StrsAre items.toList xs) (hb : xs.length + 1 < scanBound)
    (h : ∀ (h' : Heap) (tk : Nat), Lst (kT P w) h' s.heap.objs.size (uniq [] xs) → (∀ b o, s.heap.get? b = some o → h'.get? b = some o) → Q (.ref s.heap.objs.size) { s with heap := h', toks := tk }) :
    wpAny (model P w) A (call (.type "set") [.ref l]) Q E s := by
  obtain ⟨c, tl, hmro⟩ := F.called_set.mro
  have hmade := F.called_set.made
  have hsub := F.called_set.sub
  refine wpAny_call (codeAny_of_tree ?_)
  show wpAny _ _ (callAny (.type "set") _) _ _ _
  refine wpAny_pure ⟨Code.quiet_builtin _ (by decide +kernel), codeAny_builtin F.entry_type_call ?_⟩
  rw [Around.under_plain (weight_type_call_type "set" [.ref l] []) rfl]
  have h1 := F.called_set.notType
  have h2 := F.called_set.canCreate
  have hct := F.typeCall_set_1 (Value.ref l)
  repeat (any_goals (first | assumption | wp_step))
  refine codeAny_mono (code_set_led1 (Value.ref l) (E := E) (Q₁ := fun obj s₁ => obj = .ref s.heap.objs.size ∧ s₁ = { s with heap := s.heap.push (nset w) }) ⟨rfl, rfl⟩) fun r s₁ hr => ?_
  cases r with
  | error e => exact hr
  | ok fl =>
    cases fl with
    | ret obj =>
      obtain ⟨rfl, rfl⟩ := hr
      have hS : (s.heap.push (nset w)).get? s.heap.objs.size = some (nset w) := Heap.get?_push_size _ rfl
      have hT : Shared.TypeIs { s with heap := s.heap.push (nset w) } (.ref s.heap.objs.size) "set" := ⟨_, hS, rfl⟩
      have hli := F.called_set.init.lookup
      have hbi := F.called_set.init.bind (.ref s.heap.objs.size)
      repeat (any_goals (first | assumption | wp_step))
      refine codeAny_mono (codeAny_call_builtin (R := wants (fun r s₂ => r = .none ∧ ∃ h' tk, s₂ = { s with heap := h', toks := tk } ∧ Lst (kT P w) h' s.heap.objs.size (uniq [] xs) ∧
          (∀ b o, s.heap.get? b = some o → h'.get? b = some o)) E) F.called_set.init.plain F.entry_set_init (check_set_init_1 hT ?_)) fun r₂ s₂ hr₂ => ?_
      · obtain ⟨ol, hol, hcl, nl, hdl⟩ := hl
        obtain ⟨ocls, odict, odata, oslots⟩ := ol
        simp only at hcl hdl
        subst hcl; subst hdl
        have hol' : (s.heap.push (nset w)).get? l = some { cls := .type "list", dict := odict, data := .seq items nl, slots := oslots } := Heap.get?_push_of_some _ hol
        have hl1 : (s.heap.push (nset w)).IsList l items := ⟨_, hol', rfl, nl, rfl⟩
        have hs1 := F.sub_list_set
        have hs2 := F.sub_list_frozenset
        have hne : (Value.type "list" == Value.type "dict") = false := by decide
        unfold Builtin.«set.__init__» noKeywords Builtin.Frozenset.updateFrom
        generalize hPI : pyIter = PI
        wp_walk
        subst hPI
        refine wpAny_pyIter_list hl1 ?_
        refine wpAny_bind (wpAny_runValue ?_)
        have hh3 : A.in1.in1.in1.handled = none := by simp [hh]
        have lS : l < s.heap.objs.size := Heap.lt_size hol
        have hneI : l ≠ (s.heap.push (nset w)).objs.size := by
          rw [Heap.size_push]
          exact Nat.ne_of_lt (Nat.lt_succ_of_lt lS)
        have neI : s.heap.objs.size ∉ [(s.heap.push (nset w)).objs.size, l] := by
          rw [Heap.size_push]
          simp only [List.mem_cons, List.mem_singleton, List.not_mem_nil, or_false, not_or]
          exact ⟨Nat.ne_of_lt (Nat.lt_succ_self _), Nat.ne_of_gt lS⟩
        have hl : items.size = xs.length := by
          have q := StrsAre.len_eq hit
          rw [Array.length_toList] at q
          exact q
        refine upd_loop (knd := kT P w) ((Walks.list hh3 _ l hneI items).toS) s.heap.objs.size neI xs hl hb (fun i v hv => ?_) (items.size - 0) 0 _ (by omega) (Nat.zero_le _)
          ⟨⟨_, Heap.get?_push_size _ rfl, rfl, rfl⟩, (hl1.push _)⟩ (lst_new (Heap.get?_push_of_some _ hS)) fun s' hm hS' => ?_
        · have hi : i < xs.length := by rw [← hl]; exact (Array.getElem?_eq_some_iff.mp hv).1
          obtain ⟨u, e⟩ := SS.strs_at hit i v (by rw [Array.getElem?_toList]; exact hv)
          refine ⟨xs[i], List.getElem?_eq_getElem hi, ?_, by rw [e]; rfl⟩
          rw [e, List.getD_eq_getElem?_getD, List.getElem?_eq_getElem hi]
          exact is_txt _ _
        · obtain ⟨h', g2, d', tk', os'⟩ := s'
          have eg : g2 = s.gens := hm.gens
          have ed : d' = s.drawn := hm.drawn
          have eo : os' = s.os := hm.os
          subst eg; subst ed; subst eo
          show wpAny _ _ _ _ _ _
          refine wpAny_pure ?_
          show wpAny _ _ (ret Value.none) _ _ _
          refine wpAny_pure ⟨rfl, h', tk', rfl, hS', fun b o e => ?_⟩
          have b0 : b < s.heap.objs.size := Heap.lt_size e
          refine hm.heap b o (fun z => ?_) (Heap.get?_push_of_some _ (Heap.get?_push_of_some _ e))
          rcases List.mem_cons.mp z with z | z
          · rw [z] at b0
            exact Nat.lt_irrefl _ b0
          · rw [List.mem_singleton, Heap.size_push] at z
            rw [z] at b0
            exact Nat.lt_irrefl _ (Nat.lt_trans (Nat.lt_succ_self _) b0)
      · cases r₂ with
        | error e => exact hr₂
        | ok fl₂ =>
          cases fl₂ with
          | ret r =>
            obtain ⟨rfl, h', tk, rfl, hS', hk'⟩ := hr₂
            repeat (any_goals (first | assumption | wp_step))
            exact h _ _ hS' hk'
          | _ => exact hr₂.elim
    | _ => exact hr.elim
end
end Sx
set_option Elab.async false
set_option linter.all false
set_option maxRecDepth 100000
set_option maxHeartbeats 4000000
namespace Sx
open PySem PySem.Spec PyProof.Rows L2
section
variable {P : Program} {w : World} {A : Around} {E : Value → Shared → Prop} {s : Shared}
theorem perm_of {κ : Type} [DecidableEq κ] : ∀ (l ks : List κ), l.Nodup → (∀ k ∈ l, k ∈ ks) → ks.length ≤ l.length → ks.Perm l
  | [], ks, _, _, h => by
    have e : ks = [] := List.eq_nil_of_length_eq_zero (Nat.le_zero.mp h)
    rw [e]
  | x :: l, ks, nd, hm, h => by
    obtain ⟨nx, nl⟩ := List.nodup_cons.mp nd
    have hx := hm x List.mem_cons_self
    refine (List.perm_cons_erase hx).trans (List.Perm.cons x (perm_of l (ks.erase x) nl (fun k hk => ?_) ?_))
    · exact (List.mem_erase_of_ne (fun e : k = x => nx (by rw [← e]; exact hk))).mpr (hm k (List.mem_cons_of_mem _ hk))
    · rw [List.length_erase_of_mem hx]
      rw [List.length_cons] at h
      omega
theorem strs_list : ∀ (l : List Value), (∀ v ∈ l, ∃ (k : Str) (u : Tok), v = Value.str k u) → ∃ ks : List Str, StrsAre l ks
  | [], _ => ⟨[], .nil⟩
  | v :: l, h => by
    obtain ⟨k, u, rfl⟩ := h v List.mem_cons_self
    obtain ⟨ks, r⟩ := strs_list l fun z hz => h z (List.mem_cons_of_mem _ hz)
    exact ⟨k :: ks, .cons k u r⟩
theorem strs_mem : ∀ {l : List Value} {ks : List Str}, StrsAre l ks → ∀ k, k ∈ ks ↔ ∃ u, Value.str k u ∈ l
  | _, _, .nil, k => by simp
  | _, _, .cons n t r, k => by
    rw [List.mem_cons, strs_mem r k]
    constructor
    · rintro (rfl | ⟨u, h⟩)
      · exact ⟨t, List.mem_cons_self⟩
      · exact ⟨u, List.mem_cons_of_mem _ h⟩
    · rintro ⟨u, h⟩
      rcases List.mem_cons.mp h with e | e
      · injection e with e1 _
        exact Or.inl e1
      · exact Or.inr ⟨u, e⟩
theorem txt_val {k : Str} {v : Value} (h : (kT P w).is k v = true) : ∃ u, v = .str k u := Value.isStrOf_shape (x := k) (v := v) h
theorem len_set {a : Addr} {l : List Str} {Q : Value → Shared → Prop} (R : Lst (kT P w) s.heap a l) (hl : l.length < 2 ^ 60) (h : Q (.int l.length (s.toks + 1)) { s with toks := s.toks + 1 + 1 }) : wpAny (model P w) A (call (.builtin "len") [.ref a]) Q E s := by
  obtain ⟨o, es, ep, t, ho, hex, hd, p⟩ := R
  have e : es.size = l.length := p.sz
  refine call_len_set ho hex hd p.ft (by rw [e]; omega) ?_
  rw [e]
  exact h
theorem sorted_set {a : Addr} {l : List Str} (nd : l.Nodup) {Q : Value → Shared → Prop} (R : Lst (kT P w) s.heap a l) (hh : A.handled = none)
    (hQ : ∀ s' p (out : Array Value) (c : Nat) (ns : List Str), (∀ b o, s.heap.get? b = some o → s'.heap.get? b = some o) → s'.gens = s.gens → s'.os = s.os → s.heap.objs.size ≤ p →
      s'.heap.get? p = some (seqObj "list" out c) → StrsAre out.toList ns → ns.Perm l → sortedS ns = true → Q (.ref p) s') :
    wpAny (model P w) A (call (.builtin "sorted") [.ref a]) Q E s := by
  obtain ⟨o, es, ep, t, ho, hex, hd, p⟩ := R
  refine Calls.call_function_entry kind_sorted plain_sorted entry_sorted (args_sorted1 _) ?_
  unfold Builtin.«sorted»
  refine wpAny_bind (m := checkCount "sorted" 1 1 _) (wpAny_pure ?_)
  refine wpAny_bind (L2.collect_set (A := A.in1) hh ⟨o, ho, hex.1, hd⟩ p.ft p.lt p.ri p.ld fun s1 vs k1 hz g1 o1 pm => ?_)
  have hvl : vs.length = l.length := by rw [pm.length_eq, List.length_map, Array.length_toList]; exact p.sz
  obtain ⟨ks, hS⟩ := strs_list vs fun v hv => by
    obtain ⟨e, he, q⟩ := List.mem_map.mp (pm.mem_iff.mp hv)
    obtain ⟨⟨k, hk, _⟩, _⟩ := p.el e he
    obtain ⟨u, eu⟩ := txt_val hk
    exact ⟨k, u, by rw [← q]; exact eu⟩
  have hkl : ks.length = l.length := by rw [← StrsAre.length hS, hvl]
  have mem : ∀ k, k ∈ ks ↔ k ∈ l := fun k => by
    rw [strs_mem hS k, p.mm k]
    constructor
    · rintro ⟨u, hu⟩
      obtain ⟨e, he, q⟩ := List.mem_map.mp (pm.mem_iff.mp hu)
      exact ⟨e, he, by rw [show e.2 = Value.str k u from q]; exact is_txt k u⟩
    · rintro ⟨e, he, q⟩
      obtain ⟨u, eu⟩ := txt_val q
      exact ⟨u, pm.mem_iff.mpr (List.mem_map.mpr ⟨e, he, eu⟩)⟩
  have hkp : ks.Perm l := perm_of l ks nd (fun k hk => (mem k).mpr hk) (by omega)
  have hL : vs.length ≤ sizeLine := by rw [hvl, ← p.sz]; exact fits_of_scanBound p.lt
  refine wpAny_bind (wpAny_newList ?_ hL)
  have hoL : (s1.heap.push (seqObj "list" vs.toArray 0)).get? s1.heap.objs.size = some (seqObj "list" vs.toArray 0) := Heap.get?_push_size _ rfl
  refine wpAny_bind (wpAny_holding (wpAny_call_entry slot_list_sort ⟨_, hoL, rfl⟩ entry_list_sort (list_sort_treeKAny strKind_oneLt hoL hS.keysOf (fun v₁ v₂ rest e => keyKind_strs (by rw [← e]; exact hS)) hL fun st' hp hs => ?_) (args_list_sort _)))
  obtain ⟨ns', a1, a2, a3⟩ := sorted_out_str hS hp hs
  obtain ⟨c, hc⟩ := sortedHeap_at (vs := vs) (out := (arrOf st').map (·.2)) hoL
  refine ⟨_, rfl, wpAny_pure ⟨_, rfl, hQ _ s1.heap.objs.size _ c ns' (fun b u e => ?_) g1 o1 hz hc a1 (a2.trans hkp) a3⟩⟩
  have q := k1 b u e
  have lt := Heap.lt_size q
  show (sortedHeap (s1.heap.push (seqObj "list" vs.toArray 0)) s1.heap.objs.size vs _).get? b = some u
  rw [sortedHeap_old (Nat.ne_of_lt lt) (by rw [size_push']; exact Nat.lt_succ_of_lt lt)]
  exact Heap.get?_push_of_some _ q
end
/-! ### over the layer -/
/-- a set of texts at an address -/
def SetT (P : Program) (w : World) (a : Addr) (l : List Str) : HO := .ext fun h => Lst (kT P w) h a l
section
variable {X : Cx}
theorem setT_new {w : World} {P : Program} {H : Hp} {h : Heap} {a : Addr} {l : List Str} (R : Lst (kT P w) h a l) : ObjOk P w H h a (SetT P w a l) := by
  have ⟨o, _, _, _, ho, _⟩ := R
  exact ⟨R, ⟨o, ho⟩, fun h1 h2 p k => Has.on p k⟩
theorem setT_get {pins : List (Addr × Obj)} {σ : L2.St} {H : Hp} {s : Shared} {a : Addr} {l : List Str} (I : Inv X pins σ H s) (ha : H a = some (SetT X.prog X.w a l)) : Lst (kT X.prog X.w) s.heap a l := (I.hok a _ ha).1
/-- set(x), x a text of ASCII signs -/
def rSetS (P : Program) (w : World) : List V → Hp → VK → Prop := fun vs H Q => ∃ x : Str, vs = [.str x] ∧ x.cps.all (· < 128) = true ∧ x.cps.size ≤ 4000 ∧ ∀ p, H p = none → Q (.ref p) (upd H p (SetT P w p (uniq [] (sgs x))))
theorem cr_setS (hc : X.calm = true) : CallR X (.type "set") (rSetS X.prog X.w) := by
  intro pins s σ H vs us Q I r h
  obtain ⟨x, rfl, ha, hb, q⟩ := h
  cases r with
  | cons r rr =>
    cases rr
    obtain ⟨t, rfl⟩ := r
    refine set_of_text (I.ok.hd hc) ha (by unfold scanBound; omega) fun h' tk R k => ?_
    have hn : H s.heap.objs.size = none := I.hok.fresh (Nat.le_refl _)
    exact ⟨.ref s.heap.objs.size, _, I.laid (t' := tk) k (Nat.le_refl _) (setT_new R), rfl, q _ hn⟩
/-- set(xs), xs a list of texts -/
def rSetL (K : PySem.W.Frag) (P : Program) (w : World) : List V → Hp → VK → Prop := fun vs H Q => ∃ (a : Addr) (xs : List Str), vs = [.ref a] ∧ SqL K H a (xs.map V.str) ∧ xs.length ≤ 4000 ∧ ∀ p, H p = none → Q (.ref p) (upd H p (SetT P w p (uniq [] xs)))
theorem cr_setL (hc : X.calm = true) : CallR X (.type "set") (rSetL X.K X.prog X.w) := by
  intro pins s σ H vs us Q I r h
  obtain ⟨a, xs, rfl, hs, hb, q⟩ := h
  obtain ⟨its, rv, hl, _⟩ := I.list hs
  rw [Vals.ref1 r]
  refine set_of_list (I.ok.hd hc) hl.isList rv.strs (by unfold scanBound; omega) fun h' tk R k => ?_
  have hn : H s.heap.objs.size = none := I.hok.fresh (Nat.le_refl _)
  exact ⟨.ref s.heap.objs.size, _, I.laid (t' := tk) k (Nat.le_refl _) (setT_new R), rfl, q _ hn⟩
/-- sorted(found), found a set of texts -/
def rSortT (P : Program) (w : World) : List V → Hp → VK → Prop := fun vs H Q => ∃ (a : Addr) (l : List Str), vs = [V.ref a] ∧ H a = some (SetT P w a l) ∧ l.Nodup ∧ l.length ≤ 100000 ∧
  ∀ (ns : List Str) (p : Addr), ns.Perm l → sortedS ns = true → H p = none → Q (.ref p) (upd H p (.lst (ns.map V.str)))
theorem cr_sortT (hc : X.calm = true) : CallR X (.builtin "sorted") (rSortT X.prog X.w) := by
  intro pins s σ H vs us Q I r h
  obtain ⟨a, l, rfl, ha, nd, hl, q⟩ := h
  have R := setT_get I ha
  rw [Vals.ref1 r]
  refine sorted_set nd R (I.ok.hd hc) fun s' p out c ns k g o hp hg hi hpm hs => ?_
  have hlen : (ns.map V.str).length ≤ sizeLine := by rw [List.length_map, hpm.length_eq]; exact Nat.le_trans hl (by decide)
  have hn : H p = none := I.hok.fresh hp
  have J : Inv X pins σ (upd H p (.lst (ns.map V.str))) { s with heap := s'.heap, gens := s'.gens, drawn := s'.drawn, toks := s'.toks } :=
    I.call (ch := []) (Un.laid k hp hn) (I.hok.laid k hp ⟨hlen, out.toList, c, vals_of_strs hi, hg⟩) (by rw [g]; exact I.bare) (fun _ z => nomatch z)
  have e : s' = { s with heap := s'.heap, gens := s'.gens, drawn := s'.drawn, toks := s'.toks } := by
    cases s'
    cases s
    cases o
    rfl
  rw [e]
  exact ⟨.ref p, _, J, rfl, q ns p hpm hs hn⟩
/-- len(found), found a set of texts -/
def rLenT (P : Program) (w : World) : List V → Hp → VK → Prop := fun vs H Q => ∃ (a : Addr) (l : List Str), vs = [V.ref a] ∧ H a = some (SetT P w a l) ∧ l.length ≤ 100000 ∧ Q (.int l.length) H
theorem cr_lenT : CallR X (.builtin "len") (rLenT X.prog X.w) := by
  intro pins s σ H vs us Q I r h
  obtain ⟨a, l, rfl, ha, hl, q⟩ := h
  rw [Vals.ref1 r]
  exact len_set (setT_get I ha) (by omega) ⟨.int l.length, H, I.tok _, ⟨_, rfl⟩, q⟩
end
end Sx
set_option Elab.async false
set_option linter.all false
set_option maxRecDepth 100000
set_option maxHeartbeats 4000000
/-! Rx: some more rules over the layer -/
namespace Rx
open PySem PySem.Spec PyProof.Rows L2
section
variable {X : Cx}
/-- i ** j of great whole numbers -/
def CPowB (i j : Int) : Prop := 0 ≤ j ∧ (Builtin.Int.intBits i : Int) * j ≤ 2 ^ 27
theorem op_powB : OpR X (binaryOp .Pow) (rI CPowB fun i j => .int (i ^ j.toNat)) := by
  intro pins s σ H x y v u Q I rx ry h
  obtain ⟨i, j, rfl, rfl, hc, q⟩ := h
  obtain ⟨t, rfl⟩ := rx
  obtain ⟨t', rfl⟩ := ry
  exact pow_int hc.1 hc.2 ⟨.int (i ^ j.toNat), H, I.tok _, ⟨_, rfl⟩, q⟩
/-- list(x), x a text -/
def rListS : List V → Hp → VK → Prop := fun vs H Q => ∃ x : Str, vs = [.str x] ∧ x.cps.size ≤ 100000 ∧ ∀ p, H p = none → Q (.ref p) (upd H p (.lst ((Sx.sgs x).map V.str)))
theorem paired_get {α β : Type} {F : α → β → Prop} : ∀ {l : List α} {r : List β}, l.length = r.length → (∀ (i : Nat) a b, l[i]? = some a → r[i]? = some b → F a b) → Paired F l r
  | [], [], _, _ => .nil
  | [], _ :: _, h, _ => by simp at h
  | _ :: _, [], h, _ => by simp at h
  | a :: l, b :: r, h, g => .cons (g 0 a b rfl rfl) (paired_get (by simpa using h) fun i x y hx hy => g (i + 1) x y (by simpa using hx) (by simpa using hy))
theorem items_signs {x : Str} {acc : Array Value} (h : ItemsOf (SignAt x) acc x.cps.size) : Vals ((Sx.sgs x).map V.str) acc.toList := by
  refine paired_get ?_ fun i a b ha hb => ?_
  · rw [List.length_map, Sx.sgs, List.length_map, Array.length_toList, Array.length_toList, h.1]
  · rw [Array.getElem?_toList] at hb
    obtain ⟨c, u, hc, rfl⟩ := h.2 i b hb
    rw [List.getElem?_map, Sx.sgs, List.getElem?_map, Array.getElem?_toList, hc] at ha
    obtain rfl : V.str ⟨#[c]⟩ = a := Option.some.inj ha
    exact ⟨u, rfl⟩
theorem cr_listS (hc : X.calm = true) : CallR X (.type "list") rListS := by
  intro pins s σ H vs us Q I r h
  obtain ⟨x, rfl, hb, q⟩ := h
  cases r with
  | cons r rr =>
    cases rr
    obtain ⟨t, rfl⟩ := r
    have hz : x.cps.size ≤ sizeLine := Nat.le_trans hb (by decide)
    refine call_list_str (I.ok.hd hc) x t (fun h' tk acc c k hS hi => ?_) hz
    have hn : H s.heap.objs.size = none := I.hok.fresh (Nat.le_refl _)
    have hl : ((Sx.sgs x).map V.str).length = x.cps.size := by
      rw [List.length_map, Sx.sgs, List.length_map, Array.length_toList]
    have ok : ObjOk X.prog X.w (upd H s.heap.objs.size (.lst ((Sx.sgs x).map V.str))) h' s.heap.objs.size (.lst ((Sx.sgs x).map V.str)) := ⟨by rw [hl]; exact hz, acc.toList, c, items_signs hi, hS⟩
    exact ⟨.ref s.heap.objs.size, _, I.laid (t' := tk) k (Nat.le_refl _) ok, rfl, q _ hn⟩
/-- x[::k] of a text, k the number -1 -/
def turned (x : Str) : Str := ⟨x.cps.toList.reverse.toArray⟩
def tRevS (te : TE) (th : TO) : TE := fun σ H Q => te σ H fun x H1 => th σ H1 fun o H2 => ∃ z, x = .str z ∧ o = some (-1) ∧ z.length ≤ 100000 ∧ Q (.str (turned z)) H2
theorem pe_revS {e k : Expr} {te : TE} {th : TO} {p3 pos : Pos} (he : PE X e te) (hk : PO X (some k) th) : PE X (.Subscript e (.Slice none none (some k) p3) pos) (tRevS te th) := by
  refine ⟨fun pins s σ H Q I h => ?_⟩
  refine Subscript_ (thn (he.run pins s σ H _ I h) fun v s1 ⟨x, H1, I1, r1, q1⟩ => ?_)
  refine wpAny_Slice (thn (po_none.run pins s1 σ H1 (fun o H2 => o = none ∧ H2 = H1) I1 ⟨rfl, rfl⟩) fun vl s2 ⟨l, H2, I2, pl, el, e2⟩ => ?_)
  subst el e2
  refine thn (po_none.run pins s2 σ H2 (fun o H3 => o = none ∧ H3 = H2) I2 ⟨rfl, rfl⟩) fun vu s3 ⟨u, H3, I3, pu, eu, e3⟩ => ?_
  subst eu e3
  refine thn (hk.run pins s3 σ H3 _ I3 q1) fun vs s4 ⟨o, H4, I4, ps, q2⟩ => ?_
  obtain ⟨z, rfl, rfl, hz, q⟩ := q2
  obtain ⟨t, rfl⟩ := r1
  have I5 : Inv X pins σ H4 { s4 with heap := s4.heap.push { cls := .type "slice", data := .fields #[vl, vu, vs] } } := I4.kept (t' := s4.toks) fun b ob q => Heap.get?_push_of_some _ q
  obtain ⟨l1, rfl, el⟩ := IsPart.raw pl
  obtain ⟨u1, rfl, eu⟩ := IsPart.raw pu
  obtain ⟨k1, rfl, ek⟩ := IsPart.raw ps
  have hl1 : l1 = none := by cases l1 <;> simp_all
  have hu1 : u1 = none := by cases u1 <;> simp_all
  subst hl1 hu1
  show wpAny (model X.prog X.w) X.A (subscriptTail e (.Slice none none (some k) p3) (.str z t) (.ref s4.heap.objs.size)) (EP X pins σ Q) X.xe { s4 with heap := s4.heap.push { cls := .type "slice", data := .fields #[partValue none, partValue none, partValue k1] } }
  refine tail_any (ops := [.ref s4.heap.objs.size, .str z t]) (typeIs_str _ _ _) PySem.F.slot_str_getitem.lookup ?_ (by with_unfolding_all rfl)
  refine wpAny_getItem_str_slice (l := none) (u := none) (st := k1) ⟨_, Heap.get?_push_size _ rfl, rfl, rfl⟩ (by rw [ek]; rfl) ?_
  have hp : slicePicked z none none k1 = (List.range z.length).reverse := by
    unfold slicePicked
    rw [ek]
    show sliceRange ((z.length : Int) - 1) (-1) (-1) = _
    rw [PySem.W.krv_sliceRange, PySem.W.krv_range]
  unfold sliceMade
  rw [hp, ek]
  have e0 : (((some (-1) : Option Int).getD 1) == 1 && (List.range z.length).reverse.length == z.length) = false := by
    show (((-1 : Int) == 1) && _) = false
    rfl
  rw [if_neg (by rw [e0]; decide)]
  have e1 : ((List.range z.length).reverse.filterMap (z.cps[·]?)).toArray = (turned z).cps := by
    rw [List.filterMap_reverse, show z.length = z.cps.size from rfl, PySem.W.krv_all]
    rfl
  rw [e1]
  refine ⟨?_, .str _, H4, I5.tok _, ⟨_, rfl⟩, q⟩
  show (turned z).cps.size ≤ sizeLine
  have : (turned z).cps.size = z.cps.size := by simp [turned]
  rw [this]
  exact Nat.le_trans hz (by decide)
end
end Rx
set_option Elab.async false
set_option linter.all false
set_option maxRecDepth 100000
set_option maxHeartbeats 4000000
/-! Bx: what all the laws' texts share: texts as lists of signs, loops over texts and ranges, small facts of heaps -/
namespace Bx
open PySem PySem.Spec PyProof.Rows L2 Evl
abbrev mk (l : List Nat) : Str := ⟨l.toArray⟩
abbrev tx (l : List Nat) : V := .str (mk l)
theorem mk_list (l : List Nat) : (mk l).cps.toList = l := rfl
theorem mk_eq (z : Str) : z = mk z.cps.toList := rfl
theorem mk_inj {l m : List Nat} : mk l = mk m ↔ l = m := ⟨fun h => congrArg (fun z : Str => z.cps.toList) h, fun h => h ▸ rfl⟩
theorem tx_inj {l m : List Nat} : tx l = tx m ↔ l = m := ⟨fun h => mk_inj.mp (V.str.inj h), fun h => h ▸ rfl⟩
theorem mk_len (l : List Nat) : (mk l).length = l.length := by show l.toArray.size = l.length; simp
theorem mk_app (l m : List Nat) : mk l ++ mk m = mk (l ++ m) := by
  show Str.append (mk l) (mk m) = _
  simp [Str.append]
theorem sgs_mk (l : List Nat) : Sx.sgs (mk l) = l.map fun c => mk [c] := rfl
theorem cut_mk (l : List Nat) (a b : Option Int) : cutS (mk l) a b = mk ((l.drop (HT.sIx l.length 0 a)).take (HT.sIx l.length l.length b - HT.sIx l.length 0 a)) := by
  unfold cutS
  rw [mk_len]
theorem turned_mk (l : List Nat) : Rx.turned (mk l) = mk l.reverse := rfl
theorem ix_nat (n d : Nat) (i : Nat) : HT.sIx n d (some (i : Int)) = min i n := HT.sIx_nat n d i
theorem cut_to (l : List Nat) (i : Nat) : cutS (mk l) none (some (i : Int)) = mk (l.take i) := by
  rw [cut_mk, ix_nat, HT.sIx_none, List.drop_zero, Nat.sub_zero]
  congr 1
  by_cases h : i ≤ l.length
  · rw [Nat.min_eq_left h]
  · rw [Nat.min_eq_right (by omega), List.take_of_length_le (Nat.le_refl _), List.take_of_length_le (by omega)]
theorem cut_from (l : List Nat) (i : Nat) : cutS (mk l) (some (i : Int)) none = mk (l.drop i) := by
  rw [cut_mk, ix_nat, HT.sIx_none]
  congr 1
  by_cases h : i ≤ l.length
  · rw [Nat.min_eq_left h, List.take_of_length_le (by rw [List.length_drop]; omega)]
  · rw [Nat.min_eq_right (by omega), List.drop_of_length_le (Nat.le_refl _), List.drop_of_length_le (show l.length ≤ i by omega), List.take_nil]
/-- small letters alone -/
def Low (l : List Nat) : Prop := ∀ c ∈ l, 97 ≤ c ∧ c ≤ 122
theorem Low.app {l m : List Nat} (a : Low l) (b : Low m) : Low (l ++ m) := fun c h => (List.mem_append.mp h).elim (a c) (b c)
theorem Low.sub {l m : List Nat} (a : Low l) (h : ∀ c ∈ m, c ∈ l) : Low m := fun c hc => a c (h c hc)
theorem Low.nil : Low [] := fun c h => by simp at h
theorem Low.asc {l : List Nat} (a : Low l) : (mk l).cps.all (· < 128) = true := by
  rw [← Array.all_toList, List.all_eq_true]
  intro c hc
  have := a c hc
  exact decide_eq_true (by omega)
/-! ### heaps -/
theorem ex_upd {H : Hp} {p : Addr} {o : HO} (h : H p = none) : Ex H (upd H p o) := Ex.new h
/-- all but one object as before -/
def Xg (g : Addr) (H H' : Hp) : Prop := ∀ a o, a ≠ g → H a = some o → H' a = some o
theorem Xg.of {g : Addr} {H H' : Hp} (e : Ex H H') : Xg g H H' := fun a o _ h => e a o h
theorem Xg.trans {g : Addr} {H H1 H2 : Hp} (a : Xg g H H1) (b : Xg g H1 H2) : Xg g H H2 := fun x o n h => b x o n (a x o n h)
theorem Xg.refl (g : Addr) (H : Hp) : Xg g H H := fun _ _ _ h => h
theorem Xg.upd {g : Addr} {H H' : Hp} {o : HO} (e : Xg g H H') : Xg g H (L2.upd H' g o) := fun a u n h => by
  rw [upd_ne n]
  exact e a u n h
theorem Xg.fresh {g : Addr} {H H' : Hp} (e : Xg g H H') (hg : H' g ≠ none) {p : Addr} (h : H' p = none) : H p = none := by
  cases q : H p with
  | none => rfl
  | some o =>
    by_cases z : p = g
    · rw [z] at h
      exact absurd h hg
    · rw [e p o z q] at h
      cases h
/-- an extension, by what each is -/
theorem ex_ne {H : Hp} {a b : Addr} {o : HO} (h : H a = some o) (h' : H b = none) : a ≠ b := ne_of_none h h'
section
variable {K : PySem.W.Frag} {σ : L2.St} {H : Hp} {D : Ends} {tu : TS} {te ta : TE}
/-- for c in a text -/
theorem forS {j : Nat} {l : List Nat} (h : Ev te σ H (tx l)) (Pv : Nat → L2.St → Hp → Prop) (h0 : ∀ H1, Ex H H1 → Pv 0 σ H1)
    (hs : ∀ i c σ' H', l[i]? = some c → Pv i σ' H' → tu { D with nx := Pv (i + 1), ct := Pv (i + 1), bk := D.nx } (σ'.set j (some (tx [c]))) H')
    (hd : ∀ σ' H', Pv l.length σ' H' → D.nx σ' H') : tFor (iStr te) (gName j) tu D σ H :=
  h H (Ex.refl H) _ fun H1 e => ⟨mk l, rfl, by
    have w := walk_str (z := mk l)
    refine for_it w Pv (h0 H1 e) (fun _ _ _ _ _ => trivial) (fun i x σ' H' H2 hi p y => ?_) (fun σ' H' p => hd σ' H' ?_)
    · obtain ⟨rfl, c, hc, rfl⟩ := y
      refine hs i c σ' H2 ?_ p
      rw [← hc]
      simp
    · have e : (mk l).cps.size = l.length := by simp
      rw [← e]
      exact p⟩
/-- for i in reversed(range(n)) -/
theorem forRv {j : Nat} {n : Int} (h : Ev ta σ H (.int n)) (hn : 0 ≤ n ∧ n ≤ 100000) (Pv : Nat → L2.St → Hp → Prop) (h0 : ∀ H1, Ex H H1 → Pv 0 σ H1)
    (hs : ∀ (i : Nat) σ' H', (i : Int) < n → Pv i σ' H' → tu { D with nx := Pv (i + 1), ct := Pv (i + 1), bk := D.nx } (σ'.set j (some (.int (n - 1 - i)))) H')
    (hd : ∀ σ' H', Pv n.toNat σ' H' → D.nx σ' H') : tFor (iRevR (tRg1 ta)) (gName j) tu D σ H :=
  h H (Ex.refl H) _ fun H1 e => ⟨n, rfl, by omega, by omega, by omega, by omega, by
    have z : (n - 0).toNat = n.toNat := by rw [Int.sub_zero]
    rw [z]
    refine for_rangeC Pv (h0 H1 e) (fun i σ' H' hi p => ?_) hd
    have q : (0 : Int) + ((n.toNat : Nat) : Int) - 1 + (i : Nat) * (-1) = n - 1 - i := by omega
    rw [q]
    exact hs i σ' H' (by omega) p⟩
theorem rng_down {a : Int} (h0 : -1 ≤ a) (h1 : a ≤ 100000) : RgC a (-1) (-1) (a + 1).toNat := by
  have q := RgC.neg (i := a) (j := -1) (by omega) (by omega) (by omega) (by omega)
  have e : a - -1 = a + 1 := by omega
  rwa [e] at q
end
end Bx
namespace Bx
open PySem PySem.Spec PyProof.Rows L2 Evl
theorem sign_facts : ∀ c, c < 128 → (97 ≤ c → c ≤ 122 → Unicode.isAlpha c = true ∧ Unicode.isLower c = true ∧ (Unicode.isUpper c || Unicode.isTitle c) = false) := by decide +kernel
theorem low_ascii {l : List Nat} (h : Low l) : Txt.isascii (mk l) = true := h.asc
theorem low_alpha {l : List Nat} (h : Low l) (n : l ≠ []) : Txt.isalpha (mk l) = true := by
  unfold Txt.isalpha
  rw [Bool.and_eq_true]
  refine ⟨decide_eq_true ?_, ?_⟩
  · rw [mk_len]
    exact List.length_pos_iff.mpr n
  · rw [← Array.all_toList, List.all_eq_true]
    intro c hc
    have := h c hc
    exact (sign_facts c (by omega) (by omega) (by omega)).1
theorem low_lower {l : List Nat} (h : Low l) (n : l ≠ []) : Txt.islower (mk l) = true := by
  unfold Txt.islower
  rw [Bool.and_eq_true]
  constructor
  · rw [← Array.any_toList, List.any_eq_true]
    cases l with
    | nil => exact absurd rfl n
    | cons c r =>
      have := h c List.mem_cons_self
      exact ⟨c, List.mem_cons_self, (sign_facts c (by omega) (by omega) (by omega)).2.1⟩
  · rw [Bool.not_eq_true', ← Array.any_toList, List.any_eq_false]
    intro c hc
    have := h c hc
    rw [(sign_facts c (by omega) (by omega) (by omega)).2.2]
    decide
end Bx
namespace Bx
open PySem PySem.Spec PyProof.Rows L2 Evl
theorem mul_ok {i j : Int} (hi : i.natAbs < 2 ^ 9000) (hj : j.natAbs < 2 ^ 9000) : CMulW i j := wide_mul hi hj (by decide) (by decide) (by decide)
theorem abs_nat {n a : Nat} (h : n < 2 ^ a) : ((n : Nat) : Int).natAbs < 2 ^ a := by rw [Int.natAbs_natCast]; exact h
theorem small_pow {n : Nat} (h : n < 2 ^ 64) : n < 2 ^ 9000 := Nat.lt_of_lt_of_le h (Nat.pow_le_pow_right (by decide) (by decide))
theorem small_abs {i : Int} (h : i.natAbs < 2 ^ 64) : i.natAbs < 2 ^ 9000 := small_pow h
/-! ### data that are compared -/
theorem eqvAll_ints : ∀ ns ms : List Int, PyData.eqvAll (ns.map .int) (ms.map .int) = decide (ns = ms)
  | [], [] => by simp [PyData.eqvAll]
  | [], _ :: _ => by simp [PyData.eqvAll]
  | _ :: _, [] => by simp [PyData.eqvAll]
  | n :: ns, m :: ms => by
    show ((n == m) && PyData.eqvAll (ns.map .int) (ms.map .int)) = _
    rw [eqvAll_ints ns ms]
    by_cases h1 : n = m <;> by_cases h2 : ns = ms <;> simp [h1, h2]
theorem eqvAll_strs : ∀ ns ms : List Str, PyData.eqvAll (ns.map .str) (ms.map .str) = decide (ns = ms)
  | [], [] => by simp [PyData.eqvAll]
  | [], _ :: _ => by simp [PyData.eqvAll]
  | _ :: _, [] => by simp [PyData.eqvAll]
  | n :: ns, m :: ms => by
    show ((n == m) && PyData.eqvAll (ns.map .str) (ms.map .str)) = _
    rw [eqvAll_strs ns ms]
    by_cases h1 : n = m <;> by_cases h2 : ns = ms <;> simp [h1, h2]
theorem dpAll_ints {K : PySem.W.Frag} {H : Hp} : ∀ ns : List Int, DpAll K H (ns.map V.int) (ns.map PyData.int)
  | [] => .nil
  | n :: ns => .cons (.int n) (dpAll_ints ns)
theorem dpAll_strs {K : PySem.W.Frag} {H : Hp} : ∀ ns : List Str, DpAll K H (ns.map V.str) (ns.map PyData.str)
  | [] => .nil
  | n :: ns => .cons (.str n) (dpAll_strs ns)
theorem flat_shaped (ds : List PyData) (h : ∀ d ∈ ds, PyData.canLay0 d = true ∧ PyData.depth d = 0) : SeqAt.shaped (.list ds) = true ∧ SeqAt.shaped (.tuple ds) = true := by
  have a : PyData.canLayAll0 ds = true ∧ PyData.depthAll ds = 0 := by
    induction ds with
    | nil => exact ⟨rfl, rfl⟩
    | cons d ds ih =>
      obtain ⟨i1, i2⟩ := ih fun x hx => h x (List.mem_cons_of_mem _ hx)
      obtain ⟨h1, h2⟩ := h d List.mem_cons_self
      refine ⟨?_, ?_⟩
      · show (PyData.canLay0 d && PyData.canLayAll0 ds) = true
        rw [h1, i1]
        rfl
      · show max (PyData.depth d) (PyData.depthAll ds) = 0
        rw [h2, i2]
        rfl
  have z : decide (PyData.depthAll ds + 1 ≤ 64) = true := by
    rw [a.2]
    decide
  constructor
  · show (PyData.canLayAll0 ds && decide (PyData.depthAll ds + 1 ≤ 64)) = true
    rw [a.1, z]
    rfl
  · show (PyData.canLayAll0 ds && decide (PyData.depthAll ds + 1 ≤ 64)) = true
    rw [a.1, z]
    rfl
theorem shaped_ints (ns : List Int) : SeqAt.shaped (.list (ns.map PyData.int)) = true := (flat_shaped _ fun d hd => by
  obtain ⟨n, _, rfl⟩ := List.mem_map.mp hd
  exact ⟨rfl, rfl⟩).1
theorem str_ok {l : List Nat} (h : Low l) : PyData.canLay0 (.str (mk l)) = true := by
  show (mk l).cps.all (· < 0x110000) = true
  rw [← Array.all_toList, List.all_eq_true]
  intro c hc
  have := h c hc
  exact decide_eq_true (by omega)
theorem shaped_strs (ns : List Str) (h : ∀ z ∈ ns, Low z.cps.toList) : SeqAt.shaped (.list (ns.map PyData.str)) = true := (flat_shaped _ fun d hd => by
  obtain ⟨n, hn, rfl⟩ := List.mem_map.mp hd
  exact ⟨str_ok (h n hn), rfl⟩).1
/-! ### sorted texts -/
def leS (a b : Str) : Prop := a.cps.toList ≤ b.cps.toList
theorem leS_of {a b : Str} (h : ltCps b.cps.toList a.cps.toList = false) : leS a b := by
  rw [ltCps_eq] at h
  exact of_decide_eq_false h
theorem rise_all : ∀ (l : List Str) (p : Str), risingS p l = true → (p :: l).Pairwise leS
  | [], p, _ => List.pairwise_singleton _ _
  | y :: r, p, h => by
    have h' : (!ltCps y.cps.toList p.cps.toList && risingS y r) = true := h
    rw [Bool.and_eq_true, Bool.not_eq_true'] at h'
    have ih := rise_all r y h'.2
    have py := leS_of h'.1
    refine List.pairwise_cons.mpr ⟨fun x hx => ?_, ih⟩
    rcases List.mem_cons.mp hx with e | e
    · rw [e]
      exact py
    · exact List.le_trans py ((List.pairwise_cons.mp ih).1 x e)
theorem sorted_all {l : List Str} (h : sortedS l = true) : l.Pairwise leS := by
  cases l with
  | nil => exact List.Pairwise.nil
  | cons p r => exact rise_all r p h
theorem leS_anti {a b : Str} (h : leS a b) (h' : leS b a) : a = b := by
  have e := List.le_antisymm h h'
  have ea := mk_eq a
  have eb := mk_eq b
  rw [ea, eb, e]
/-- the one sorted list -/
theorem sorted_one {l m : List Str} (hp : l.Perm m) (hl : sortedS l = true) (hm : m.Pairwise leS) : l = m :=
  List.Perm.eq_of_pairwise (le := leS) (fun _ _ _ _ => leS_anti) (sorted_all hl) hm hp
theorem sing_le {a b : Nat} (h : a < b) : leS (mk [a]) (mk [b]) := by
  show [a] ≤ [b]
  refine List.not_lt.mp fun z => ?_
  have := List.cons_lt_cons_iff.mp z
  rcases this with q | ⟨q, _⟩ <;> omega
theorem signs_sorted {L : List Nat} (h : L.Pairwise (· < ·)) : (L.map fun c => mk [c]).Pairwise leS := by
  rw [List.pairwise_map]
  exact h.imp sing_le
theorem sing_inj {a b : Nat} (h : mk [a] = mk [b]) : a = b := by
  have := mk_inj.mp h
  simpa using this
theorem signs_nodup {L : List Nat} (h : L.Nodup) : (L.map fun c => mk [c]).Nodup := by
  unfold List.Nodup at h ⊢
  rw [List.pairwise_map]
  exact h.imp fun n e => n (sing_inj e)
theorem uniq_id {κ : Type} [DecidableEq κ] : ∀ (ks acc : List κ), (acc ++ ks).Nodup → Sx.uniq acc ks = acc ++ ks
  | [], acc, _ => by rw [Sx.uniq, List.append_nil]
  | k :: r, acc, h => by
    have n : k ∉ acc := fun hk => by
      rw [List.nodup_append] at h
      exact h.2.2 k hk k List.mem_cons_self rfl
    rw [Sx.uniq, if_neg n, uniq_id r (acc ++ [k]) (by rw [List.append_assoc]; exact h), List.append_assoc]
    rfl
theorem lt_nodup {L : List Nat} (h : L.Pairwise (· < ·)) : L.Nodup := h.imp fun a e => by omega
/-- an alphabet -/
structure Alph (L : List Nat) : Prop where
  low : Low L
  up : L.Pairwise (· < ·)
  one : 1 ≤ L.length
  four : L.length ≤ 4
end Bx
set_option linter.all false
/-! Px: powers: the greatest exponent, the number of a text -/
namespace Px
/-- the number of a text over an alphabet of m letters, by the places of its letters -/
def num (m : Nat) : List Nat → Nat → Nat
  | [], f => f
  | i :: l, f => num m l (f * m + i + 1)
theorem num_snoc (m i : Nat) : ∀ (l : List Nat) (f : Nat), num m (l ++ [i]) f = num m l f * m + i + 1
  | [], f => rfl
  | j :: l, f => num_snoc m i l (f * m + j + 1)
/-- how many texts are shorter -/
def less (m : Nat) : Nat → Nat
  | 0 => 0
  | k + 1 => less m k * m + 1
theorem less_pow (m : Nat) (hm : 1 ≤ m) : ∀ k, less m k * (m - 1) + 1 = m ^ k
  | 0 => by simp [less]
  | k + 1 => by
    have ih := less_pow m hm k
    show (less m k * m + 1) * (m - 1) + 1 = m ^ (k + 1)
    rw [Nat.pow_succ, ← ih, Nat.add_mul, Nat.add_mul, Nat.one_mul, Nat.one_mul, Nat.mul_right_comm]
    omega
theorem num_low (m : Nat) : ∀ (l : List Nat) (f k : Nat), less m k ≤ f → less m (k + l.length) ≤ num m l f
  | [], f, k, h => h
  | i :: l, f, k, h => by
    have h2 : less m (k + 1) ≤ f * m + i + 1 := by
      show less m k * m + 1 ≤ _
      have := Nat.mul_le_mul_right m h
      omega
    have := num_low m l (f * m + i + 1) (k + 1) h2
    have e : k + 1 + l.length = k + (i :: l).length := by rw [List.length_cons]; omega
    rw [e] at this
    exact this
theorem num_high (m : Nat) : ∀ (l : List Nat) (f k : Nat), (∀ i ∈ l, i < m) → f < less m (k + 1) → num m l f < less m (k + l.length + 1)
  | [], f, k, _, h => h
  | i :: l, f, k, hi, h => by
    have h2 : f * m + i + 1 < less m (k + 1 + 1) := by
      show _ < less m (k + 1) * m + 1
      have h3 := hi i List.mem_cons_self
      have h4 : (f + 1) * m ≤ less m (k + 1) * m := Nat.mul_le_mul_right m h
      rw [Nat.add_mul, Nat.one_mul] at h4
      omega
    have := num_high m l (f * m + i + 1) (k + 1) (fun j hj => hi j (List.mem_cons_of_mem _ hj)) h2
    have e : k + 1 + l.length + 1 = k + (i :: l).length + 1 := by rw [List.length_cons]; omega
    rw [e] at this
    exact this
/-- the number of a text of k letters lies between powers -/
theorem num_between {m : Nat} (hm : 1 ≤ m) {l : List Nat} (hl : ∀ i ∈ l, i < m) : m ^ l.length ≤ num m l 0 * (m - 1) + 1 ∧ (2 ≤ m → num m l 0 * (m - 1) + 1 < m ^ (l.length + 1)) := by
  have h1 := num_low m l 0 0 (Nat.le_refl _)
  have h2 := num_high m l 0 0 hl (by show 0 < 0 * m + 1; omega)
  rw [Nat.zero_add] at h1 h2
  constructor
  · rw [← less_pow m hm]
    have := Nat.mul_le_mul_right (m - 1) h1
    omega
  · intro h
    rw [← less_pow m hm]
    have : (num m l 0 + 1) * (m - 1) ≤ less m (l.length + 1) * (m - 1) := Nat.mul_le_mul_right (m - 1) h2
    rw [Nat.add_mul, Nat.one_mul] at this
    omega
/-- greatest exponents, by steps -/
theorem pow_le_iff {b x y : Nat} (hb : 2 ≤ b) (h : b ^ x < b ^ y) : x < y := (Nat.pow_lt_pow_iff_right hb).mp h
/-- e is the greatest exponent -/
def Gre (b n e : Nat) : Prop := b ^ e ≤ n ∧ n < b ^ (e + 1)
theorem gre_one {b n e e' : Nat} (hb : 2 ≤ b) (h : Gre b n e) (h' : Gre b n e') : e = e' := by
  have a1 := pow_le_iff hb (Nat.lt_of_le_of_lt h.1 h'.2)
  have a2 := pow_le_iff hb (Nat.lt_of_le_of_lt h'.1 h.2)
  omega
/-- a step of the search: reached = b ^ e, what is left is below 2 ^ (at + 1) more -/
theorem gre_step {b n e k : Nat} (h1 : b ^ e ≤ n) (h2 : n < b ^ (e + 2 ^ (k + 1))) :
    (b ^ e * b ^ 2 ^ k ≤ n → b ^ (e + 2 ^ k) ≤ n ∧ n < b ^ (e + 2 ^ k + 2 ^ k)) ∧ (¬ b ^ e * b ^ 2 ^ k ≤ n → n < b ^ (e + 2 ^ k)) := by
  rw [← Nat.pow_add]
  refine ⟨fun h => ⟨h, ?_⟩, fun h => by omega⟩
  have e2 : e + 2 ^ k + 2 ^ k = e + 2 ^ (k + 1) := by rw [Nat.pow_succ]; omega
  rw [e2]
  exact h2
/-- the text of a number, from its end -/
theorem num_back {m : Nat} {l : List Nat} {i : Nat} (hi : i < m) : num m (l ++ [i]) 0 - 1 = num m l 0 * m + i ∧ (num m (l ++ [i]) 0 - 1) % m = i ∧ (num m (l ++ [i]) 0 - 1) / m = num m l 0 := by
  rw [num_snoc]
  have e : num m l 0 * m + i + 1 - 1 = num m l 0 * m + i := by omega
  rw [e]
  refine ⟨rfl, ?_, ?_⟩
  · rw [Nat.mul_comm, Nat.mul_add_mod, Nat.mod_eq_of_lt hi]
  · rw [Nat.mul_comm, Nat.mul_add_div (by omega), Nat.div_eq_of_lt hi]
    omega
end Px
namespace Px
theorem halves (f s l : Nat) : (if l % 2 = 1 then f * s else f) * (s * s) ^ (l / 2) = f * s ^ l := by
  have e : (s * s) ^ (l / 2) = s ^ (2 * (l / 2)) := by rw [Nat.pow_mul, Nat.pow_two]
  rw [e]
  by_cases h : l % 2 = 1
  · rw [if_pos h, Nat.mul_assoc, ← Nat.pow_succ']
    congr 2
    omega
  · rw [if_neg h]
    congr 2
    omega
theorem halves' (f s l : Nat) : (if l % 2 = 1 then f * s else f) * (if 0 < l / 2 then s * s else s) ^ (l / 2) = f * s ^ l := by
  rw [← halves f s l]
  by_cases h : 0 < l / 2
  · rw [if_pos h]
  · have z : l / 2 = 0 := by omega
    rw [z, Nat.pow_zero, Nat.pow_zero]
end Px
namespace Px
theorem num_one : ∀ (l : List Nat) (f : Nat), (∀ i ∈ l, i < 1) → num 1 l f = f + l.length
  | [], f, _ => rfl
  | i :: l, f, h => by
    have h0 := h i List.mem_cons_self
    show num 1 l (f * 1 + i + 1) = _
    rw [num_one l _ fun j hj => h j (List.mem_cons_of_mem _ hj), List.length_cons]
    omega
theorem num_le {m : Nat} (hm : m ≤ 4) : ∀ (l : List Nat) (f : Nat), (∀ i ∈ l, i < m) → num m l f + 1 ≤ (f + 1) * 8 ^ l.length
  | [], f, _ => by simp [num]
  | i :: l, f, h => by
    have h0 := h i List.mem_cons_self
    have ih := num_le hm l (f * m + i + 1) fun j hj => h j (List.mem_cons_of_mem _ hj)
    show num m l (f * m + i + 1) + 1 ≤ _
    refine Nat.le_trans ih ?_
    rw [List.length_cons, Nat.pow_succ, Nat.mul_comm (8 ^ l.length) 8, ← Nat.mul_assoc]
    refine Nat.mul_le_mul_right _ ?_
    have : f * m ≤ f * 4 := Nat.mul_le_mul_left f hm
    omega
theorem num_big {m : Nat} (hm : m ≤ 4) {l : List Nat} (h : ∀ i ∈ l, i < m) (hl : l.length ≤ 310) : num m l 0 < 2 ^ 990 := by
  have h1 := num_le hm l 0 h
  have h2 : (8 : Nat) ^ l.length ≤ 8 ^ 310 := Nat.pow_le_pow_right (by decide) hl
  have h3 : (8 : Nat) ^ 310 < 2 ^ 990 := by decide +kernel
  omega
theorem num_pos {m : Nat} : ∀ (l : List Nat) (f : Nat), 0 < f ∨ l ≠ [] → 0 < num m l f
  | [], f, h => by
    rcases h with h | h
    · exact h
    · exact absurd rfl h
  | i :: l, f, _ => num_pos l _ (.inl (by omega))
end Px
set_option linter.all false
/-! Mx: counts of words in texts: the mathematics, over lists of signs -/
namespace Mx
def cnt : List Nat → List Nat → Nat
  | [], _ => 1
  | _ :: _, [] => 0
  | a :: w, b :: t => cnt (a :: w) t + if a = b then cnt w t else 0
theorem cnt_nil (t : List Nat) : cnt [] t = 1 := by cases t <;> rfl
theorem cnt_e (a : Nat) (w : List Nat) : cnt (a :: w) [] = 0 := rfl
theorem cnt_c (a b : Nat) (w t : List Nat) : cnt (a :: w) (b :: t) = cnt (a :: w) t + if a = b then cnt w t else 0 := by rw [cnt]
theorem cnt_empty : ∀ w : List Nat, w ≠ [] → cnt w [] = 0
  | [], h => absurd rfl h
  | _ :: _, _ => rfl
theorem cnt_snoc : ∀ (p u : List Nat) (a c : Nat), cnt (u ++ [a]) (p ++ [c]) = cnt (u ++ [a]) p + if a = c then cnt u p else 0
  | [], [], a, c => by
    show cnt [a] [c] = cnt [a] [] + if a = c then cnt [] [] else 0
    rw [cnt_c]
  | [], x :: u, a, c => by
    show cnt (x :: (u ++ [a])) [c] = cnt (x :: (u ++ [a])) [] + if a = c then cnt (x :: u) [] else 0
    rw [cnt_c, cnt_e, cnt_e, cnt_empty (u ++ [a]) (by simp)]
    simp
  | b :: p, [], a, c => by
    have ih := cnt_snoc p [] a c
    show cnt [a] (b :: (p ++ [c])) = cnt [a] (b :: p) + if a = c then cnt [] (b :: p) else 0
    simp only [List.nil_append] at ih
    rw [cnt_c, ih, cnt_c]
    simp only [cnt_nil]
    omega
  | b :: p, x :: u, a, c => by
    have i1 := cnt_snoc p (x :: u) a c
    have i2 := cnt_snoc p u a c
    show cnt (x :: (u ++ [a])) (b :: (p ++ [c])) = cnt (x :: (u ++ [a])) (b :: p) + if a = c then cnt (x :: u) (b :: p) else 0
    simp only [List.cons_append] at i1
    rw [cnt_c, i1, cnt_c, cnt_c, i2]
    by_cases h1 : x = b <;> by_cases h2 : a = c <;> simp [h1, h2] <;> omega
theorem cnt_rev : ∀ (t w : List Nat), cnt w.reverse t.reverse = cnt w t
  | [], [] => rfl
  | [], a :: w => by
    rw [cnt_e]
    exact cnt_empty _ (by simp)
  | b :: t, [] => by rw [List.reverse_nil, cnt_nil, cnt_nil]
  | b :: t, a :: w => by
    rw [List.reverse_cons, List.reverse_cons, cnt_snoc, cnt_rev t w, ← List.reverse_cons, cnt_rev t (a :: w), cnt_c]
/-- the ways to cut a word in two -/
def splits : List Nat → List (List Nat × List Nat)
  | [] => [([], [])]
  | a :: w => ([], a :: w) :: (splits w).map fun p => (a :: p.1, p.2)
theorem sum_map_add {α : Type} (f g : α → Nat) : ∀ l : List α, (l.map fun x => f x + g x).sum = (l.map f).sum + (l.map g).sum
  | [] => rfl
  | x :: l => by
    simp only [List.map_cons, List.sum_cons]
    rw [sum_map_add f g l]
    omega
theorem sum_map_zero {α : Type} : ∀ l : List α, (l.map fun _ => 0).sum = 0
  | [] => rfl
  | x :: l => by simp only [List.map_cons, List.sum_cons]; rw [sum_map_zero l]
theorem cnt_app : ∀ (s t w : List Nat), cnt w (s ++ t) = ((splits w).map fun p => cnt p.1 s * cnt p.2 t).sum
  | [], t, [] => by simp [splits, cnt_nil]
  | [], t, a :: w => by
    rw [splits, List.map_cons, List.sum_cons, List.map_map]
    have e : ((splits w).map ((fun p : List Nat × List Nat => cnt p.1 [] * cnt p.2 t) ∘ fun p => (a :: p.1, p.2))).sum = 0 := by
      rw [← sum_map_zero (splits w)]
      congr 1
      apply List.map_congr_left
      intro p _
      show cnt (a :: p.1) [] * cnt p.2 t = 0
      rw [cnt_e, Nat.zero_mul]
    rw [e, cnt_nil, Nat.one_mul, List.nil_append]
    rfl
  | b :: s, t, [] => by simp [splits, cnt_nil]
  | b :: s, t, a :: w => by
    rw [List.cons_append, cnt_c, cnt_app s t (a :: w), cnt_app s t w]
    rw [splits, List.map_cons, List.sum_cons, List.map_map, List.map_cons, List.sum_cons, List.map_map]
    have e : ((splits w).map ((fun p : List Nat × List Nat => cnt p.1 (b :: s) * cnt p.2 t) ∘ fun p => (a :: p.1, p.2))).sum =
        ((splits w).map ((fun p : List Nat × List Nat => cnt p.1 s * cnt p.2 t) ∘ fun p => (a :: p.1, p.2))).sum + if a = b then ((splits w).map fun p => cnt p.1 s * cnt p.2 t).sum else 0 := by
      by_cases h : a = b
      · rw [if_pos h, ← sum_map_add]
        congr 1
        apply List.map_congr_left
        intro p _
        show cnt (a :: p.1) (b :: s) * cnt p.2 t = cnt (a :: p.1) s * cnt p.2 t + cnt p.1 s * cnt p.2 t
        rw [cnt_c, if_pos h, Nat.add_mul]
      · rw [if_neg h, Nat.add_zero]
        congr 1
        apply List.map_congr_left
        intro p _
        show cnt (a :: p.1) (b :: s) * cnt p.2 t = cnt (a :: p.1) s * cnt p.2 t
        rw [cnt_c, if_neg h, Nat.add_zero]
    rw [e]
    simp only [cnt_nil]
    omega
theorem splits_range : ∀ w : List Nat, (List.range (w.length + 1)).map (fun i => (w.take i, w.drop i)) = splits w
  | [] => rfl
  | a :: w => by
    rw [List.length_cons, List.range_succ_eq_map, List.map_cons, List.map_map, splits, ← splits_range w, List.map_map]
    rfl
/-- the same, as it is added up in whole numbers -/
theorem cnt_cuts (w s t : List Nat) : ((cnt w (s ++ t) : Nat) : Int) = ((List.range (w.length + 1)).map fun i => ((cnt (w.take i) s : Nat) : Int) * ((cnt (w.drop i) t : Nat) : Int)).sum := by
  rw [cnt_app, ← splits_range, List.map_map]
  generalize List.range (w.length + 1) = l
  induction l with
  | nil => rfl
  | cons i l ih =>
    simp only [List.map_cons, List.sum_cons, Function.comp] at ih ⊢
    rw [Int.natCast_add, ih, Int.natCast_mul]
theorem cnt_front (w t : List Nat) (c : Nat) : cnt w (c :: t) = cnt w t + if w.take 1 = [c] then cnt (w.drop 1) t else 0 := by
  cases w with
  | nil => simp [cnt_nil]
  | cons a w =>
    rw [cnt_c]
    by_cases h : a = c <;> simp [h]
theorem cnt_back (w t : List Nat) (c : Nat) : cnt w (t ++ [c]) = cnt w t + if w.drop (w.length - 1) = [c] then cnt (w.take (w.length - 1)) t else 0 := by
  rcases List.eq_nil_or_concat w with rfl | ⟨u, a, rfl⟩
  · simp [cnt_nil]
  · rw [List.concat_eq_append, cnt_snoc]
    have e1 : (u ++ [a]).length - 1 = u.length := by simp
    rw [e1, List.drop_left, List.take_left]
    by_cases h : a = c <;> simp [h]
theorem cnt_filter : ∀ (t w : List Nat) (S : Nat → Bool), (∀ a ∈ w, S a = true) → cnt w (t.filter S) = cnt w t
  | [], w, S, _ => rfl
  | b :: t, [], S, _ => by rw [cnt_nil, cnt_nil]
  | b :: t, a :: w, S, h => by
    rw [List.filter_cons]
    by_cases hb : S b = true
    · rw [if_pos hb, cnt_c, cnt_c, cnt_filter t (a :: w) S h, cnt_filter t w S fun x hx => h x (List.mem_cons_of_mem _ hx)]
    · rw [if_neg hb, cnt_filter t (a :: w) S h, cnt_c]
      have n : a ≠ b := fun e => hb (e ▸ h a List.mem_cons_self)
      rw [if_neg n, Nat.add_zero]
def twice : List Nat → List Nat
  | [] => []
  | c :: t => c :: c :: twice t
theorem cnt_twice : ∀ (t w : List Nat), w.Nodup → cnt w (twice t) = 2 ^ w.length * cnt w t
  | [], [], _ => rfl
  | [], a :: w, _ => by rw [twice, cnt_e, Nat.mul_zero]
  | b :: t, [], _ => by rw [cnt_nil, cnt_nil]; rfl
  | b :: t, a :: w, h => by
    obtain ⟨h1, h2⟩ := List.nodup_cons.mp h
    rw [twice, cnt_c, cnt_c, cnt_twice t (a :: w) h, cnt_c]
    by_cases e : a = b
    · subst e
      simp only [if_true]
      have z : cnt w (a :: twice t) = cnt w (twice t) := by
        cases w with
        | nil => rw [cnt_nil, cnt_nil]
        | cons x w =>
          rw [cnt_c, if_neg (fun e : x = a => h1 (by rw [e]; exact List.mem_cons_self)), Nat.add_zero]
      rw [z, cnt_twice t w h2, List.length_cons, Nat.pow_succ, Nat.mul_add]
      generalize cnt w t = q
      generalize 2 ^ w.length = r
      have : r * 2 * q = r * q + r * q := by
        rw [Nat.mul_comm r 2, Nat.mul_assoc]
        omega
      omega
    · simp [e]
/-! ### the row of a count's loop -/
def row (w p : List Nat) : List Int := (List.range (w.length + 1)).map fun j => ((cnt (w.take j) p : Nat) : Int)
theorem row_len (w p : List Nat) : (row w p).length = w.length + 1 := by simp [row]
theorem row_at (w p : List Nat) (j : Nat) (h : j ≤ w.length) : (row w p)[j]? = some ((cnt (w.take j) p : Nat) : Int) := by
  unfold row
  rw [List.getElem?_map, List.getElem?_range (by omega)]
  rfl
theorem row_nil (w : List Nat) : row w [] = 1 :: List.replicate w.length 0 := by
  unfold row
  rw [List.range_succ_eq_map, List.map_cons, List.map_map]
  congr 1
  · apply List.ext_getElem
    · simp
    · intro i h1 h2
      simp only [List.length_map, List.length_range] at h1
      simp only [List.getElem_map, List.getElem_range, List.getElem_replicate, Function.comp]
      rw [cnt_empty _ (by
        cases w with
        | nil => simp at h1
        | cons a w => simp)]
      rfl
/-- behind i turns of the inner loop -/
def mid (w p : List Nat) (c i : Nat) : List Int := (List.range (w.length + 1)).map fun j => if w.length - i < j then ((cnt (w.take j) (p ++ [c]) : Nat) : Int) else ((cnt (w.take j) p : Nat) : Int)
theorem mid_len (w p : List Nat) (c i : Nat) : (mid w p c i).length = w.length + 1 := by simp [mid]
theorem mid_at (w p : List Nat) (c i j : Nat) (h : j ≤ w.length) : (mid w p c i)[j]? = some (if w.length - i < j then ((cnt (w.take j) (p ++ [c]) : Nat) : Int) else ((cnt (w.take j) p : Nat) : Int)) := by
  unfold mid
  rw [List.getElem?_map, List.getElem?_range (by omega)]
  rfl
theorem mid_zero (w p : List Nat) (c : Nat) : mid w p c 0 = row w p := by
  unfold mid row
  apply List.map_congr_left
  intro j hj
  have := List.mem_range.mp hj
  rw [if_neg (by omega)]
theorem mid_all (w p : List Nat) (c : Nat) : mid w p c w.length = row w (p ++ [c]) := by
  unfold mid row
  apply List.map_congr_left
  intro j hj
  by_cases h : j = 0
  · subst h
    simp [cnt_nil]
  · rw [if_pos (by omega)]
theorem take_snoc (w : List Nat) (j : Nat) (h : j < w.length) : w.take (j + 1) = w.take j ++ [w[j]] := by
  rw [List.take_add_one, List.getElem?_eq_getElem h]
  rfl
/-- a turn: at the place k from the end -/
theorem mid_turn (w p : List Nat) (c i : Nat) (h : i < w.length) : mid w p c (i + 1) =
    if w[w.length - 1 - i]? = some c then (mid w p c i).set (w.length - i) (((cnt (w.take (w.length - i)) p : Nat) : Int) + ((cnt (w.take (w.length - 1 - i)) p : Nat) : Int)) else mid w p c i := by
  have hk : w.length - 1 - i < w.length := by omega
  have e1 : w.length - i = w.length - 1 - i + 1 := by omega
  have step : cnt (w.take (w.length - i)) (p ++ [c]) = cnt (w.take (w.length - i)) p + if w[w.length - 1 - i] = c then cnt (w.take (w.length - 1 - i)) p else 0 := by
    rw [e1, take_snoc w _ hk, cnt_snoc]
  apply List.ext_getElem?
  intro j
  by_cases hj : j ≤ w.length
  · rw [mid_at _ _ _ _ _ hj]
    rw [List.getElem?_eq_getElem hk]
    by_cases hc : w[w.length - 1 - i] = c
    · rw [if_pos (congrArg some hc)]
      rw [if_pos hc] at step
      by_cases hjj : j = w.length - i
      · subst hjj
        rw [List.getElem?_set_self (by rw [mid_len]; omega), if_pos (by omega), step, Int.natCast_add]
      · rw [List.getElem?_set_ne (by omega), mid_at _ _ _ _ _ hj]
        by_cases q : w.length - i < j
        · rw [if_pos q, if_pos (by omega)]
        · rw [if_neg q, if_neg (by omega)]
    · rw [if_neg (fun z => hc (Option.some.inj z)), mid_at _ _ _ _ _ hj]
      rw [if_neg hc] at step
      by_cases hjj : j = w.length - i
      · subst hjj
        rw [if_pos (by omega), if_neg (by omega), step, Nat.add_zero]
      · by_cases q : w.length - i < j
        · rw [if_pos q, if_pos (by omega)]
        · rw [if_neg q, if_neg (by omega)]
  · have z1 : (mid w p c (i + 1))[j]? = none := List.getElem?_eq_none_iff.mpr (by rw [mid_len]; omega)
    rw [z1]
    symm
    split
    · exact List.getElem?_eq_none_iff.mpr (by rw [List.length_set, mid_len]; omega)
    · exact List.getElem?_eq_none_iff.mpr (by rw [mid_len]; omega)
end Mx
namespace Mx
theorem cnt_le : ∀ (t w : List Nat), cnt w t ≤ 2 ^ t.length
  | [], [] => by decide
  | [], _ :: _ => Nat.zero_le _
  | b :: t, [] => by
    rw [cnt_nil]
    exact Nat.one_le_two_pow
  | b :: t, a :: w => by
    rw [cnt_c, List.length_cons, Nat.pow_succ]
    have h1 := cnt_le t (a :: w)
    have h2 := cnt_le t w
    split <;> omega
theorem twice_flat : ∀ t : List Nat, (t.map fun c => [c, c]).flatten = twice t
  | [] => rfl
  | c :: t => by
    rw [List.map_cons, List.flatten_cons, twice_flat t]
    rfl
end Mx
set_option Elab.async false
set_option linter.all false
set_option maxRecDepth 100000
set_option maxHeartbeats 4000000
namespace K04
open PySem PySem.Spec PyProof.Rows L2 Evl Bx
def topS (i : Nat) : Stmt := PySem.Challenge.pw_skipcounts_k04_whole_texts_numbered.main.body.getD i (.Pass ⟨0, 0, 0, 0⟩)
abbrev s__law_cell : Stmt := topS 34
abbrev N__law_cell : List Str := ["_law_script", "_law_index"]
theorem sc__law_cell : FnScope N__law_cell ["_law_script", "_law_index"] (defScope s__law_cell) := ⟨rfl, rfl, rfl, by decide +kernel, rfl, by decide +kernel, by decide +kernel⟩
abbrev s__law_generator : Stmt := topS 35
abbrev N__law_generator : List Str := ["_law_script", "_law_index", "_law_seed"]
theorem sc__law_generator : FnScope N__law_generator ["_law_script", "_law_index"] (defScope s__law_generator) := ⟨rfl, rfl, rfl, by decide +kernel, rfl, by decide +kernel, by decide +kernel⟩
abbrev s__law_hash : Stmt := topS 32
abbrev N__law_hash : List Str := ["_law_seed", "_law_index", "_law_mixed"]
theorem sc__law_hash : FnScope N__law_hash ["_law_seed", "_law_index"] (defScope s__law_hash) := ⟨rfl, rfl, rfl, by decide +kernel, rfl, by decide +kernel, by decide +kernel⟩
abbrev s__law_random : Stmt := topS 33
abbrev N__law_random : List Str := ["_law_generator_here", "_law_bound", "_law_drawn", "_law_turn"]
theorem sc__law_random : FnScope N__law_random ["_law_generator_here", "_law_bound"] (defScope s__law_random) := ⟨rfl, rfl, rfl, by decide +kernel, rfl, by decide +kernel, by decide +kernel⟩
abbrev s__law_alphabet : Stmt := topS 39
abbrev N__law_alphabet : List Str := ["_law_generator_here", "_law_least", "_law_many", "_law_start", "_law_found", "_law_turn"]
theorem sc__law_alphabet : FnScope N__law_alphabet ["_law_generator_here", "_law_least"] (defScope s__law_alphabet) := ⟨rfl, rfl, rfl, by decide +kernel, rfl, by decide +kernel, by decide +kernel⟩
abbrev s_is_text : Stmt := topS 17
abbrev N_is_text : List Str := ["value"]
theorem sc_is_text : FnScope N_is_text ["value"] (defScope s_is_text) := ⟨rfl, rfl, rfl, by decide +kernel, rfl, by decide +kernel, by decide +kernel⟩
abbrev s_is_alphabet : Stmt := topS 18
abbrev N_is_alphabet : List Str := ["value"]
theorem sc_is_alphabet : FnScope N_is_alphabet ["value"] (defScope s_is_alphabet) := ⟨rfl, rfl, rfl, by decide +kernel, rfl, by decide +kernel, by decide +kernel⟩
abbrev s_need_letters : Stmt := topS 28
abbrev N_need_letters : List Str := ["letters"]
theorem sc_need_letters : FnScope N_need_letters ["letters"] (defScope s_need_letters) := ⟨rfl, rfl, rfl, by decide +kernel, rfl, by decide +kernel, by decide +kernel⟩
abbrev s_greatest_exponent : Stmt := topS 12
abbrev N_greatest_exponent : List Str := ["base", "number", "squares", "square", "exponent", "reached", "at"]
theorem sc_greatest_exponent : FnScope N_greatest_exponent ["base", "number"] (defScope s_greatest_exponent) := ⟨rfl, rfl, rfl, by decide +kernel, rfl, by decide +kernel, by decide +kernel⟩
abbrev s_size_of_numbered : Stmt := topS 26
abbrev N_size_of_numbered : List Str := ["many", "number"]
theorem sc_size_of_numbered : FnScope N_size_of_numbered ["many", "number"] (defScope s_size_of_numbered) := ⟨rfl, rfl, rfl, by decide +kernel, rfl, by decide +kernel, by decide +kernel⟩
abbrev s_is_whole : Stmt := topS 8
abbrev N_is_whole : List Str := ["value"]
theorem sc_is_whole : FnScope N_is_whole ["value"] (defScope s_is_whole) := ⟨rfl, rfl, rfl, by decide +kernel, rfl, by decide +kernel, by decide +kernel⟩
abbrev s_is_count : Stmt := topS 9
abbrev N_is_count : List Str := ["value"]
theorem sc_is_count : FnScope N_is_count ["value"] (defScope s_is_count) := ⟨rfl, rfl, rfl, by decide +kernel, rfl, by decide +kernel, by decide +kernel⟩
abbrev s_text_numbered : Stmt := topS 22
abbrev N_text_numbered : List Str := ["letters", "number", "size", "signs", "left"]
theorem sc_text_numbered : FnScope N_text_numbered ["letters", "number"] (defScope s_text_numbered) := ⟨rfl, rfl, rfl, by decide +kernel, rfl, by decide +kernel, by decide +kernel⟩
abbrev s_stands_over : Stmt := topS 24
abbrev N_stands_over : List Str := ["letters", "value", "sign"]
theorem sc_stands_over : FnScope N_stands_over ["letters", "value"] (defScope s_stands_over) := ⟨rfl, rfl, rfl, by decide +kernel, rfl, by decide +kernel, by decide +kernel⟩
abbrev s_need_text_over : Stmt := topS 30
abbrev N_need_text_over : List Str := ["letters", "text"]
theorem sc_need_text_over : FnScope N_need_text_over ["letters", "text"] (defScope s_need_text_over) := ⟨rfl, rfl, rfl, by decide +kernel, rfl, by decide +kernel, by decide +kernel⟩
abbrev s_number_of_text : Stmt := topS 25
abbrev N_number_of_text : List Str := ["letters", "text", "found", "sign"]
theorem sc_number_of_text : FnScope N_number_of_text ["letters", "text"] (defScope s_number_of_text) := ⟨rfl, rfl, rfl, by decide +kernel, rfl, by decide +kernel, by decide +kernel⟩
abbrev s_text_number : Stmt := topS 21
abbrev N_text_number : List Str := ["letters", "text"]
theorem sc_text_number : FnScope N_text_number ["letters", "text"] (defScope s_text_number) := ⟨rfl, rfl, rfl, by decide +kernel, rfl, by decide +kernel, by decide +kernel⟩
abbrev s__law_words : Stmt := topS 38
abbrev N__law_words : List Str := ["_law_letters", "_law_depth", "_law_found", "_law_row", "_law_turn", "_law_wider", "_law_word", "_law_letter"]
theorem sc__law_words : FnScope N__law_words ["_law_letters", "_law_depth"] (defScope s__law_words) := ⟨rfl, rfl, rfl, by decide +kernel, rfl, by decide +kernel, by decide +kernel⟩
abbrev s_raised : Stmt := topS 11
abbrev N_raised : List Str := ["base", "exponent", "found", "square", "left"]
theorem sc_raised : FnScope N_raised ["base", "exponent"] (defScope s_raised) := ⟨rfl, rfl, rfl, by decide +kernel, rfl, by decide +kernel, by decide +kernel⟩
abbrev s_words_of_size : Stmt := topS 27
abbrev N_words_of_size : List Str := ["letters", "size", "words", "_", "word", "letter"]
theorem sc_words_of_size : FnScope N_words_of_size ["letters", "size"] (defScope s_words_of_size) := ⟨rfl, rfl, rfl, by decide +kernel, rfl, by decide +kernel, by decide +kernel⟩
abbrev s_is_from_to : Stmt := topS 10
abbrev N_is_from_to : List Str := ["value", "low", "high"]
theorem sc_is_from_to : FnScope N_is_from_to ["value", "low", "high"] (defScope s_is_from_to) := ⟨rfl, rfl, rfl, by decide +kernel, rfl, by decide +kernel, by decide +kernel⟩
abbrev s_texts_of : Stmt := topS 23
abbrev N_texts_of : List Str := ["letters", "size", "many"]
theorem sc_texts_of : FnScope N_texts_of ["letters", "size"] (defScope s_texts_of) := ⟨rfl, rfl, rfl, by decide +kernel, rfl, by decide +kernel, by decide +kernel⟩
abbrev s__law_few_right : Stmt := topS 40
abbrev N__law_few_right : List Str := ["_law_letters", "_law_depth", "_law_due", "_law_number", "_law_text_here", "_law_size", "_law_told"]
theorem sc__law_few_right : FnScope N__law_few_right ["_law_letters"] (defScope s__law_few_right) := ⟨rfl, rfl, rfl, by decide +kernel, rfl, by decide +kernel, by decide +kernel⟩
abbrev s__law_text : Stmt := topS 37
abbrev N__law_text : List Str := ["_law_generator_here", "_law_letters", "_law_size", "_law_turn"]
theorem sc__law_text : FnScope N__law_text ["_law_generator_here", "_law_letters", "_law_size"] (defScope s__law_text) := ⟨rfl, rfl, rfl, by decide +kernel, rfl, by decide +kernel, by decide +kernel⟩
abbrev s__law_yes : Stmt := topS 36
abbrev N__law_yes : List Str := ["_law_told", "_law_due"]
theorem sc__law_yes : FnScope N__law_yes ["_law_told", "_law_due"] (defScope s__law_yes) := ⟨rfl, rfl, rfl, by decide +kernel, rfl, by decide +kernel, by decide +kernel⟩
abbrev s_need_text : Stmt := topS 29
abbrev N_need_text : List Str := ["text"]
theorem sc_need_text : FnScope N_need_text ["text"] (defScope s_need_text) := ⟨rfl, rfl, rfl, by decide +kernel, rfl, by decide +kernel, by decide +kernel⟩
abbrev s_is_ahead : Stmt := topS 20
abbrev N_is_ahead : List Str := ["one", "other"]
theorem sc_is_ahead : FnScope N_is_ahead ["one", "other"] (defScope s_is_ahead) := ⟨rfl, rfl, rfl, by decide +kernel, rfl, by decide +kernel, by decide +kernel⟩
abbrev s__law_far_right : Stmt := topS 41
abbrev N__law_far_right : List Str := ["_law_generator_here", "_law_letters", "_law_turn", "_law_text_here", "_law_number", "_law_after"]
theorem sc__law_far_right : FnScope N__law_far_right ["_law_generator_here", "_law_letters"] (defScope s__law_far_right) := ⟨rfl, rfl, rfl, by decide +kernel, rfl, by decide +kernel, by decide +kernel⟩
abbrev s__law_pairs_right : Stmt := topS 42
abbrev N__law_pairs_right : List Str := ["_law_generator_here", "_law_letters", "_law_texts", "_law_turn", "_law_one", "_law_other"]
theorem sc__law_pairs_right : FnScope N__law_pairs_right ["_law_generator_here", "_law_letters"] (defScope s__law_pairs_right) := ⟨rfl, rfl, rfl, by decide +kernel, rfl, by decide +kernel, by decide +kernel⟩
abbrev s_is_over : Stmt := topS 19
abbrev N_is_over : List Str := ["letters", "value"]
theorem sc_is_over : FnScope N_is_over ["letters", "value"] (defScope s_is_over) := ⟨rfl, rfl, rfl, by decide +kernel, rfl, by decide +kernel, by decide +kernel⟩
abbrev s__law_kinds_right : Stmt := topS 43
abbrev N__law_kinds_right : List Str := ["_law_letters", "_law_due", "_law_odd", "_law_item"]
theorem sc__law_kinds_right : FnScope N__law_kinds_right ["_law_letters"] (defScope s__law_kinds_right) := ⟨rfl, rfl, rfl, by decide +kernel, rfl, by decide +kernel, by decide +kernel⟩
abbrev s_law : Stmt := topS 44
abbrev N_law : List Str := ["_law_script", "_law_index", "_law_generator_here", "_law_letters"]
theorem sc_law : FnScope N_law ["_law_script"] (defScope s_law) := ⟨rfl, rfl, rfl, by decide +kernel, rfl, by decide +kernel, by decide +kernel⟩
structure Tx (K : PySem.W.Frag) (mg : Str → Option Value) where
  a__law_cell : Addr
  fd__law_cell : FuncData
  F__law_cell : Fun K "_law_cell" "_law_cell" s__law_cell a__law_cell fd__law_cell
  g__law_cell : mg "_law_cell" = some (.ref a__law_cell)
  a__law_generator : Addr
  fd__law_generator : FuncData
  F__law_generator : Fun K "_law_generator" "_law_generator" s__law_generator a__law_generator fd__law_generator
  g__law_generator : mg "_law_generator" = some (.ref a__law_generator)
  a__law_hash : Addr
  fd__law_hash : FuncData
  F__law_hash : Fun K "_law_hash" "_law_hash" s__law_hash a__law_hash fd__law_hash
  g__law_hash : mg "_law_hash" = some (.ref a__law_hash)
  a__law_random : Addr
  fd__law_random : FuncData
  F__law_random : Fun K "_law_random" "_law_random" s__law_random a__law_random fd__law_random
  g__law_random : mg "_law_random" = some (.ref a__law_random)
  a__law_alphabet : Addr
  fd__law_alphabet : FuncData
  F__law_alphabet : Fun K "_law_alphabet" "_law_alphabet" s__law_alphabet a__law_alphabet fd__law_alphabet
  g__law_alphabet : mg "_law_alphabet" = some (.ref a__law_alphabet)
  a_is_text : Addr
  fd_is_text : FuncData
  F_is_text : Fun K "is_text" "is_text" s_is_text a_is_text fd_is_text
  g_is_text : mg "is_text" = some (.ref a_is_text)
  a_is_alphabet : Addr
  fd_is_alphabet : FuncData
  F_is_alphabet : Fun K "is_alphabet" "is_alphabet" s_is_alphabet a_is_alphabet fd_is_alphabet
  g_is_alphabet : mg "is_alphabet" = some (.ref a_is_alphabet)
  a_need_letters : Addr
  fd_need_letters : FuncData
  F_need_letters : Fun K "need_letters" "need_letters" s_need_letters a_need_letters fd_need_letters
  g_need_letters : mg "need_letters" = some (.ref a_need_letters)
  a_greatest_exponent : Addr
  fd_greatest_exponent : FuncData
  F_greatest_exponent : Fun K "greatest_exponent" "greatest_exponent" s_greatest_exponent a_greatest_exponent fd_greatest_exponent
  g_greatest_exponent : mg "greatest_exponent" = some (.ref a_greatest_exponent)
  a_size_of_numbered : Addr
  fd_size_of_numbered : FuncData
  F_size_of_numbered : Fun K "size_of_numbered" "size_of_numbered" s_size_of_numbered a_size_of_numbered fd_size_of_numbered
  g_size_of_numbered : mg "size_of_numbered" = some (.ref a_size_of_numbered)
  a_is_whole : Addr
  fd_is_whole : FuncData
  F_is_whole : Fun K "is_whole" "is_whole" s_is_whole a_is_whole fd_is_whole
  g_is_whole : mg "is_whole" = some (.ref a_is_whole)
  a_is_count : Addr
  fd_is_count : FuncData
  F_is_count : Fun K "is_count" "is_count" s_is_count a_is_count fd_is_count
  g_is_count : mg "is_count" = some (.ref a_is_count)
  a_text_numbered : Addr
  fd_text_numbered : FuncData
  F_text_numbered : Fun K "text_numbered" "text_numbered" s_text_numbered a_text_numbered fd_text_numbered
  g_text_numbered : mg "text_numbered" = some (.ref a_text_numbered)
  a_stands_over : Addr
  fd_stands_over : FuncData
  F_stands_over : Fun K "stands_over" "stands_over" s_stands_over a_stands_over fd_stands_over
  g_stands_over : mg "stands_over" = some (.ref a_stands_over)
  a_need_text_over : Addr
  fd_need_text_over : FuncData
  F_need_text_over : Fun K "need_text_over" "need_text_over" s_need_text_over a_need_text_over fd_need_text_over
  g_need_text_over : mg "need_text_over" = some (.ref a_need_text_over)
  a_number_of_text : Addr
  fd_number_of_text : FuncData
  F_number_of_text : Fun K "number_of_text" "number_of_text" s_number_of_text a_number_of_text fd_number_of_text
  g_number_of_text : mg "number_of_text" = some (.ref a_number_of_text)
  a_text_number : Addr
  fd_text_number : FuncData
  F_text_number : Fun K "text_number" "text_number" s_text_number a_text_number fd_text_number
  g_text_number : mg "text_number" = some (.ref a_text_number)
  a__law_words : Addr
  fd__law_words : FuncData
  F__law_words : Fun K "_law_words" "_law_words" s__law_words a__law_words fd__law_words
  g__law_words : mg "_law_words" = some (.ref a__law_words)
  a_raised : Addr
  fd_raised : FuncData
  F_raised : Fun K "raised" "raised" s_raised a_raised fd_raised
  g_raised : mg "raised" = some (.ref a_raised)
  a_words_of_size : Addr
  fd_words_of_size : FuncData
  F_words_of_size : Fun K "words_of_size" "words_of_size" s_words_of_size a_words_of_size fd_words_of_size
  g_words_of_size : mg "words_of_size" = some (.ref a_words_of_size)
  a_is_from_to : Addr
  fd_is_from_to : FuncData
  F_is_from_to : Fun K "is_from_to" "is_from_to" s_is_from_to a_is_from_to fd_is_from_to
  g_is_from_to : mg "is_from_to" = some (.ref a_is_from_to)
  a_texts_of : Addr
  fd_texts_of : FuncData
  F_texts_of : Fun K "texts_of" "texts_of" s_texts_of a_texts_of fd_texts_of
  g_texts_of : mg "texts_of" = some (.ref a_texts_of)
  a__law_few_right : Addr
  fd__law_few_right : FuncData
  F__law_few_right : Fun K "_law_few_right" "_law_few_right" s__law_few_right a__law_few_right fd__law_few_right
  g__law_few_right : mg "_law_few_right" = some (.ref a__law_few_right)
  a__law_text : Addr
  fd__law_text : FuncData
  F__law_text : Fun K "_law_text" "_law_text" s__law_text a__law_text fd__law_text
  g__law_text : mg "_law_text" = some (.ref a__law_text)
  a__law_yes : Addr
  fd__law_yes : FuncData
  F__law_yes : Fun K "_law_yes" "_law_yes" s__law_yes a__law_yes fd__law_yes
  g__law_yes : mg "_law_yes" = some (.ref a__law_yes)
  a_need_text : Addr
  fd_need_text : FuncData
  F_need_text : Fun K "need_text" "need_text" s_need_text a_need_text fd_need_text
  g_need_text : mg "need_text" = some (.ref a_need_text)
  a_is_ahead : Addr
  fd_is_ahead : FuncData
  F_is_ahead : Fun K "is_ahead" "is_ahead" s_is_ahead a_is_ahead fd_is_ahead
  g_is_ahead : mg "is_ahead" = some (.ref a_is_ahead)
  a__law_far_right : Addr
  fd__law_far_right : FuncData
  F__law_far_right : Fun K "_law_far_right" "_law_far_right" s__law_far_right a__law_far_right fd__law_far_right
  g__law_far_right : mg "_law_far_right" = some (.ref a__law_far_right)
  a__law_pairs_right : Addr
  fd__law_pairs_right : FuncData
  F__law_pairs_right : Fun K "_law_pairs_right" "_law_pairs_right" s__law_pairs_right a__law_pairs_right fd__law_pairs_right
  g__law_pairs_right : mg "_law_pairs_right" = some (.ref a__law_pairs_right)
  a_is_over : Addr
  fd_is_over : FuncData
  F_is_over : Fun K "is_over" "is_over" s_is_over a_is_over fd_is_over
  g_is_over : mg "is_over" = some (.ref a_is_over)
  a__law_kinds_right : Addr
  fd__law_kinds_right : FuncData
  F__law_kinds_right : Fun K "_law_kinds_right" "_law_kinds_right" s__law_kinds_right a__law_kinds_right fd__law_kinds_right
  g__law_kinds_right : mg "_law_kinds_right" = some (.ref a__law_kinds_right)
  a_law : Addr
  fd_law : FuncData
  F_law : Fun K "law" "law" s_law a_law fd_law
  g_law : mg "law" = some (.ref a_law)
  n_len : mg "len" = none
  n_sum : mg "sum" = none
  n_int : mg "int" = none
  n_max : mg "max" = none
  n_range : mg "range" = none
  n_isinstance : mg "isinstance" = none
  n_str : mg "str" = none
  n_list : mg "list" = none
  n_sorted : mg "sorted" = none
  n_set : mg "set" = none
  n_reversed : mg "reversed" = none
  n_bool : mg "bool" = none
  n_all : mg "all" = none
  k_MOST_IN_ALPHABET : Tok
  c_MOST_IN_ALPHABET : mg "MOST_IN_ALPHABET" = some (.int 4 k_MOST_IN_ALPHABET)
  k_MOST_IN_TEXT : Tok
  c_MOST_IN_TEXT : mg "MOST_IN_TEXT" = some (.int 300 k_MOST_IN_TEXT)
  k_MOST_TEXTS : Tok
  c_MOST_TEXTS : mg "MOST_TEXTS" = some (.int 2000 k_MOST_TEXTS)
section
variable {K : PySem.W.Frag} {mg : Str → Option Value}
theorem b__law_cell (T : Tx K mg) : Binds K T.fd__law_cell ["_law_script", "_law_index"] [] := T.F__law_cell.binds fun _ _ _ _ _ _ us hl => match us, hl with | [_, _], _ => rfl
theorem b__law_generator (T : Tx K mg) : Binds K T.fd__law_generator ["_law_script", "_law_index"] [] := T.F__law_generator.binds fun _ _ _ _ _ _ us hl => match us, hl with | [_, _], _ => rfl
theorem b__law_hash (T : Tx K mg) : Binds K T.fd__law_hash ["_law_seed", "_law_index"] [] := T.F__law_hash.binds fun _ _ _ _ _ _ us hl => match us, hl with | [_, _], _ => rfl
theorem b__law_random (T : Tx K mg) : Binds K T.fd__law_random ["_law_generator_here", "_law_bound"] [] := T.F__law_random.binds fun _ _ _ _ _ _ us hl => match us, hl with | [_, _], _ => rfl
theorem b__law_alphabet (T : Tx K mg) : Binds K T.fd__law_alphabet ["_law_generator_here", "_law_least"] [] := T.F__law_alphabet.binds fun _ _ _ _ _ _ us hl => match us, hl with | [_, _], _ => rfl
theorem b_is_text (T : Tx K mg) : Binds K T.fd_is_text ["value"] [] := T.F_is_text.binds fun _ _ _ _ _ _ us hl => match us, hl with | [_], _ => rfl
theorem b_is_alphabet (T : Tx K mg) : Binds K T.fd_is_alphabet ["value"] [] := T.F_is_alphabet.binds fun _ _ _ _ _ _ us hl => match us, hl with | [_], _ => rfl
theorem b_need_letters (T : Tx K mg) : Binds K T.fd_need_letters ["letters"] [] := T.F_need_letters.binds fun _ _ _ _ _ _ us hl => match us, hl with | [_], _ => rfl
theorem b_greatest_exponent (T : Tx K mg) : Binds K T.fd_greatest_exponent ["base", "number"] [] := T.F_greatest_exponent.binds fun _ _ _ _ _ _ us hl => match us, hl with | [_, _], _ => rfl
theorem b_size_of_numbered (T : Tx K mg) : Binds K T.fd_size_of_numbered ["many", "number"] [] := T.F_size_of_numbered.binds fun _ _ _ _ _ _ us hl => match us, hl with | [_, _], _ => rfl
theorem b_is_whole (T : Tx K mg) : Binds K T.fd_is_whole ["value"] [] := T.F_is_whole.binds fun _ _ _ _ _ _ us hl => match us, hl with | [_], _ => rfl
theorem b_is_count (T : Tx K mg) : Binds K T.fd_is_count ["value"] [] := T.F_is_count.binds fun _ _ _ _ _ _ us hl => match us, hl with | [_], _ => rfl
theorem b_text_numbered (T : Tx K mg) : Binds K T.fd_text_numbered ["letters", "number"] [] := T.F_text_numbered.binds fun _ _ _ _ _ _ us hl => match us, hl with | [_, _], _ => rfl
theorem b_stands_over (T : Tx K mg) : Binds K T.fd_stands_over ["letters", "value"] [] := T.F_stands_over.binds fun _ _ _ _ _ _ us hl => match us, hl with | [_, _], _ => rfl
theorem b_need_text_over (T : Tx K mg) : Binds K T.fd_need_text_over ["letters", "text"] [] := T.F_need_text_over.binds fun _ _ _ _ _ _ us hl => match us, hl with | [_, _], _ => rfl
theorem b_number_of_text (T : Tx K mg) : Binds K T.fd_number_of_text ["letters", "text"] [] := T.F_number_of_text.binds fun _ _ _ _ _ _ us hl => match us, hl with | [_, _], _ => rfl
theorem b_text_number (T : Tx K mg) : Binds K T.fd_text_number ["letters", "text"] [] := T.F_text_number.binds fun _ _ _ _ _ _ us hl => match us, hl with | [_, _], _ => rfl
theorem b__law_words (T : Tx K mg) : Binds K T.fd__law_words ["_law_letters", "_law_depth"] [] := T.F__law_words.binds fun _ _ _ _ _ _ us hl => match us, hl with | [_, _], _ => rfl
theorem b_raised (T : Tx K mg) : Binds K T.fd_raised ["base", "exponent"] [] := T.F_raised.binds fun _ _ _ _ _ _ us hl => match us, hl with | [_, _], _ => rfl
theorem b_words_of_size (T : Tx K mg) : Binds K T.fd_words_of_size ["letters", "size"] [] := T.F_words_of_size.binds fun _ _ _ _ _ _ us hl => match us, hl with | [_, _], _ => rfl
theorem b_is_from_to (T : Tx K mg) : Binds K T.fd_is_from_to ["value", "low", "high"] [] := T.F_is_from_to.binds fun _ _ _ _ _ _ us hl => match us, hl with | [_, _, _], _ => rfl
theorem b_texts_of (T : Tx K mg) : Binds K T.fd_texts_of ["letters", "size"] [] := T.F_texts_of.binds fun _ _ _ _ _ _ us hl => match us, hl with | [_, _], _ => rfl
theorem b__law_few_right (T : Tx K mg) : Binds K T.fd__law_few_right ["_law_letters"] [] := T.F__law_few_right.binds fun _ _ _ _ _ _ us hl => match us, hl with | [_], _ => rfl
theorem b__law_text (T : Tx K mg) : Binds K T.fd__law_text ["_law_generator_here", "_law_letters", "_law_size"] [] := T.F__law_text.binds fun _ _ _ _ _ _ us hl => match us, hl with | [_, _, _], _ => rfl
theorem b__law_yes (T : Tx K mg) : Binds K T.fd__law_yes ["_law_told", "_law_due"] [] := T.F__law_yes.binds fun _ _ _ _ _ _ us hl => match us, hl with | [_, _], _ => rfl
theorem b_need_text (T : Tx K mg) : Binds K T.fd_need_text ["text"] [] := T.F_need_text.binds fun _ _ _ _ _ _ us hl => match us, hl with | [_], _ => rfl
theorem b_is_ahead (T : Tx K mg) : Binds K T.fd_is_ahead ["one", "other"] [] := T.F_is_ahead.binds fun _ _ _ _ _ _ us hl => match us, hl with | [_, _], _ => rfl
theorem b__law_far_right (T : Tx K mg) : Binds K T.fd__law_far_right ["_law_generator_here", "_law_letters"] [] := T.F__law_far_right.binds fun _ _ _ _ _ _ us hl => match us, hl with | [_, _], _ => rfl
theorem b__law_pairs_right (T : Tx K mg) : Binds K T.fd__law_pairs_right ["_law_generator_here", "_law_letters"] [] := T.F__law_pairs_right.binds fun _ _ _ _ _ _ us hl => match us, hl with | [_, _], _ => rfl
theorem b_is_over (T : Tx K mg) : Binds K T.fd_is_over ["letters", "value"] [] := T.F_is_over.binds fun _ _ _ _ _ _ us hl => match us, hl with | [_, _], _ => rfl
theorem b__law_kinds_right (T : Tx K mg) : Binds K T.fd__law_kinds_right ["_law_letters"] [] := T.F__law_kinds_right.binds fun _ _ _ _ _ _ us hl => match us, hl with | [_], _ => rfl
theorem b_law (T : Tx K mg) : Binds K T.fd_law ["_law_script"] [] := T.F_law.binds fun _ _ _ _ _ _ us hl => match us, hl with | [_], _ => rfl
end
end K04
set_option Elab.async false
set_option linter.all false
set_option maxRecDepth 100000
set_option maxHeartbeats 4000000
namespace K04
open PySem PySem.Spec PyProof.Rows L2 Evl Bx
section
variable {P : Program} {w : World} {K : PySem.W.Frag} {mg : Str → Option Value} {base : Heap}
/-! ### texts -/
def sp_is_text (K : PySem.W.Frag) : Sp := fun vs H Q _ => ∃ l, vs = [tx l] ∧ Low l ∧ Q (.bl true) H
theorem ok_is_text (T : Tx K mg) : FnOk P w K mg base CX0 1 T.a_is_text T.fd_is_text ["value"] (sp_is_text K) := by
  refine T.F_is_text.ok sc_is_text (fun vs H Q E h => ?_) (fun cdv A outer s H vs Q E hr h => ?_)
  · obtain ⟨l, rfl, _⟩ := h
    rfl
  · obtain ⟨l, rfl, hl, q⟩ := h
    refine ⟨_, (pss_cons (ps_if (pt_not (pt_val (pe_callB call_isi (by rfl) T.n_isinstance (by decide +kernel) (pa_cons (pv 0) (pa_cons (pe_bltn (v := .ty "str") (u := .type "str") (by rfl) T.n_str (by decide +kernel) rfl) pa_nil))))) (pss_one (ps_ret pe_bl)) pss_nil) (pss_one (ps_ret (pe_or (pe_cmpR op_eq (pv 0) pe_str (nomark _)) (pe_one (pe_and (pe_m0 PySem.F.slot_str_isascii PySem.F.type_str_isascii mt_isascii (pv 0)) (pe_and (pe_m0 PySem.F.slot_str_isalpha PySem.F.type_str_isalpha mt_isalpha (pv 0)) (pe_one (pe_m0 PySem.F.slot_str_islower PySem.F.type_str_islower mt_islower (pv 0)))))))))), ?_⟩
    refine ⟨_, rfl, _, _, .type "str", _, true, rfl, .ty _, .base (.str _), kit_ty (by decide +kernel), true, rfl, iteF ?_⟩
    refine ⟨_, rfl, rfl, _, rfl, ?_⟩
    by_cases n : l = []
    · subst n
      rw [if_pos (by rfl)]
      exact q
    · have ne : decide (tx l = V.str (PySem.Str.ofString "")) = false := decide_eq_false fun z => n ((tx_inj (l := l) (m := [])).mp (z.trans (by rfl)))
      rw [ne]
      refine iteF ?_
      have a1 := low_ascii hl
      have a2 := low_alpha hl n
      have a3 := low_lower hl n
      refine ⟨_, rfl, ⟨_, rfl⟩, _, rfl, rfl, trivial, _, rfl, ?_⟩
      rw [a1]
      refine iteT ⟨_, rfl, ⟨_, rfl⟩, _, rfl, rfl, trivial, _, rfl, ?_⟩
      rw [a2]
      refine iteT ⟨_, rfl, ⟨_, rfl⟩, _, rfl, rfl, trivial, ?_⟩
      rw [a3]
      exact q
def sp_need (K : PySem.W.Frag) : Sp := fun vs H Q _ => ∃ l, vs = [tx l] ∧ Low l ∧ Q .non H
theorem ok_need_text (T : Tx K mg) : FnOk P w K mg base CX0 2 T.a_need_text T.fd_need_text ["text"] (sp_need K) := by
  refine T.F_need_text.ok sc_need_text (fun vs H Q E h => ?_) (fun cdv A outer s H vs Q E hr h => ?_)
  · obtain ⟨l, rfl, _⟩ := h
    rfl
  · obtain ⟨l, rfl, hl, q⟩ := h
    refine ⟨_, (pss_one (ps_if (pt_not (pt_val (pe_call (ok_is_text T) (hr.mono (by decide)) (by rfl) T.g_is_text T.F_is_text.kp (b_is_text T) .nil pass0 (pa_cons (pv 0) pa_nil)))) (pss_one ps_never) pss_nil)), ?_⟩
    exact ⟨_, rfl, l, rfl, hl, true, rfl, iteF q⟩
end
end K04
set_option Elab.async false
set_option linter.all false
set_option maxRecDepth 100000
set_option maxHeartbeats 4000000
namespace K04
open PySem PySem.Spec PyProof.Rows L2 Evl Bx
section
variable {P : Program} {w : World} {K : PySem.W.Frag} {mg : Str → Option Value} {base : Heap}
/-! ### whole numbers -/
def sp_is_whole (K : PySem.W.Frag) : Sp := fun vs H Q _ => ∃ i : Int, vs = [.int i] ∧ Q (.bl true) H
theorem ok_is_whole (T : Tx K mg) : FnOk P w K mg base CX0 1 T.a_is_whole T.fd_is_whole ["value"] (sp_is_whole K) := by
  refine T.F_is_whole.ok sc_is_whole (fun vs H Q E h => ?_) (fun cdv A outer s H vs Q E hr h => ?_)
  · obtain ⟨l, rfl, _⟩ := h
    rfl
  · obtain ⟨i, rfl, q⟩ := h
    refine ⟨_, (pss_one (ps_ret (pe_and (pe_callB call_isi (by rfl) T.n_isinstance (by decide +kernel) (pa_cons (pv 0) (pa_cons (pe_bltn (v := .ty "int") (u := .type "int") (by rfl) T.n_int (by decide +kernel) rfl) pa_nil))) (pe_one (pe_not (pe_callB call_isi (by rfl) T.n_isinstance (by decide +kernel) (pa_cons (pv 0) (pa_cons (pe_bltn (v := .ty "bool") (u := .type "bool") (by rfl) T.n_bool (by decide +kernel) rfl) pa_nil)))))))), ?_⟩
    refine ⟨_, rfl, _, _, .type "int", _, true, rfl, .ty _, .base (.int _), kit_ty (by decide +kernel), true, rfl, iteT ?_⟩
    exact ⟨_, rfl, _, _, .type "int", _, false, rfl, .ty _, .base (.int _), kit_ty (by decide +kernel), false, rfl, q⟩
def sp_is_from_to (K : PySem.W.Frag) : Sp := fun vs H Q _ => ∃ i a b : Int, vs = [.int i, .int a, .int b] ∧ a ≤ i ∧ i ≤ b ∧ Q (.bl true) H
theorem ok_is_from_to (T : Tx K mg) : FnOk P w K mg base CX0 2 T.a_is_from_to T.fd_is_from_to ["value", "low", "high"] (sp_is_from_to K) := by
  refine T.F_is_from_to.ok sc_is_from_to (fun vs H Q E h => ?_) (fun cdv A outer s H vs Q E hr h => ?_)
  · obtain ⟨_, _, _, rfl, _⟩ := h
    rfl
  · obtain ⟨i, a, b, rfl, h1, h2, q⟩ := h
    refine ⟨_, (pss_one (ps_ret (pe_and (pe_call (ok_is_whole T) (hr.mono (by decide)) (by rfl) T.g_is_whole T.F_is_whole.kp (b_is_whole T) .nil pass0 (pa_cons (pv 0) pa_nil)) (pe_one (pe_chain op_le op_le (pv 1) (pv 0) (pv 2)))))), ?_⟩
    refine ⟨_, rfl, i, rfl, true, rfl, iteT ?_⟩
    refine ⟨_, rfl, _, rfl, a, i, rfl, rfl, _, rfl, ?_⟩
    rw [decide_eq_true h1]
    refine iteT ⟨_, rfl, i, b, rfl, rfl, ?_⟩
    show Q (.bl (decide (i ≤ b))) H
    rw [decide_eq_true h2]
    exact q
def sp_is_alphabet (K : PySem.W.Frag) : Sp := fun vs H Q _ => ∃ L, vs = [tx L] ∧ Alph L ∧ ∀ H', Ex H H' → Q (.bl true) H'
theorem ok_is_alphabet (T : Tx K mg) : FnOk P w K mg base CX0 2 T.a_is_alphabet T.fd_is_alphabet ["value"] (sp_is_alphabet K) := by
  refine T.F_is_alphabet.ok sc_is_alphabet (fun vs H Q E h => ?_) (fun cdv A outer s H vs Q E hr h => ?_)
  · obtain ⟨_, rfl, _⟩ := h
    rfl
  · obtain ⟨L, rfl, hL, q⟩ := h
    refine ⟨_, (pss_cons (ps_if (PW.pt (pw_or (pt_not (pt_val (pe_call (ok_is_text T) (hr.mono (by decide)) (by rfl) T.g_is_text T.F_is_text.kp (b_is_text T) .nil pass0 (pa_cons (pv 0) pa_nil)))) (pw_or1 (pt_not (pt_chain op_le op_le pe_int (pe_callB call_len_str (by rfl) T.n_len (by decide +kernel) (pa_cons (pv 0) pa_nil)) (pe_glob (v := .int 4) (by rfl) T.c_MOST_IN_ALPHABET ⟨_, rfl⟩)))))) (pss_one (ps_ret pe_bl)) pss_nil) (pss_one (ps_ret (pe_cmpR (op_eqD hr.units) (pe_callTy (Rx.cr_listS rfl) (by rfl) T.n_list (by decide +kernel) (pa_cons (pv 0) pa_nil)) (pe_callB (Sx.cr_sortT rfl) (by rfl) T.n_sorted (by decide +kernel) (pa_cons (pe_callTy (Sx.cr_setS rfl) (by rfl) T.n_set (by decide +kernel) (pa_cons (pv 0) pa_nil)) pa_nil)) (nomark _))))), ?_⟩
    have h1 := hL.one
    have h4 := hL.four
    refine ⟨_, rfl, L, rfl, hL.low, true, rfl, iteF ?_⟩
    refine ⟨_, rfl, mk L, rfl, by rw [mk_len]; exact sz_of (by omega), 1, _, rfl, rfl, true, ?_, iteT ?_⟩
    · rw [mk_len]
      exact congrArg V.bl (decide_eq_true (by omega))
    refine ⟨_, _, rfl, rfl, true, ?_, iteF ?_⟩
    · rw [mk_len]
      exact congrArg V.bl (decide_eq_true (by omega))
    -- list(value) == sorted(set(value))
    refine ⟨_, rfl, mk L, rfl, by show L.toArray.size ≤ _; simp; omega, fun p1 n1 => ?_⟩
    refine ⟨_, rfl, mk L, rfl, hL.low.asc, by show L.toArray.size ≤ _; simp; omega, fun p2 n2 => ?_⟩
    have nd := signs_nodup (lt_nodup hL.up)
    have eu : Sx.uniq [] (Sx.sgs (mk L)) = L.map fun c => mk [c] := by
      rw [sgs_mk]
      exact uniq_id _ [] nd
    refine ⟨p2, L.map fun c => mk [c], rfl, by rw [upd_same, eu], nd, by rw [List.length_map]; omega, fun ns p3 hp hs n3 => ?_⟩
    have en := sorted_one hp hs (signs_sorted hL.up)
    subst en
    rw [sgs_mk]
    have x1 : Ex H (upd H p1 (.lst ((L.map fun c => mk [c]).map V.str))) := Ex.new n1
    have x2 := Ex.new n2 (o := Sx.SetT P w p2 (Sx.uniq [] (Sx.sgs (mk L))))
    have x3 := Ex.new n3 (o := .lst ((L.map fun c => mk [c]).map V.str))
    have g1 := x3 _ _ (x2 _ _ (upd_same (H := H) (a := p1) (o := .lst ((L.map fun c => mk [c]).map V.str))))
    refine ⟨.list ((L.map fun c => mk [c]).map .str), .list ((L.map fun c => mk [c]).map .str), .lst (.inl (.inl g1)) (dpAll_strs _), .lst (.inl (.inl upd_same)) (dpAll_strs _), ?_, ?_, ?_⟩
    · refine shaped_strs _ fun z hz => ?_
      obtain ⟨c, hc, rfl⟩ := List.mem_map.mp hz
      intro d hd
      rw [mk_list, List.mem_singleton] at hd
      rw [hd]
      exact hL.low c hc
    · refine shaped_strs _ fun z hz => ?_
      obtain ⟨c, hc, rfl⟩ := List.mem_map.mp hz
      intro d hd
      rw [mk_list, List.mem_singleton] at hd
      rw [hd]
      exact hL.low c hc
    · show Q (.bl (PyData.eqvAll _ _)) _
      rw [eqvAll_strs, decide_eq_true rfl]
      exact q _ (x1.trans (x2.trans x3))
def sp_need_letters (K : PySem.W.Frag) : Sp := fun vs H Q _ => ∃ L, vs = [tx L] ∧ Alph L ∧ ∀ H', Ex H H' → Q .non H'
theorem ok_need_letters (T : Tx K mg) : FnOk P w K mg base CX0 3 T.a_need_letters T.fd_need_letters ["letters"] (sp_need_letters K) := by
  refine T.F_need_letters.ok sc_need_letters (fun vs H Q E h => ?_) (fun cdv A outer s H vs Q E hr h => ?_)
  · obtain ⟨l, rfl, _⟩ := h
    rfl
  · obtain ⟨l, rfl, hl, q⟩ := h
    refine ⟨_, (pss_one (ps_if (pt_not (pt_val (pe_call (ok_is_alphabet T) (hr.mono (by decide)) (by rfl) T.g_is_alphabet T.F_is_alphabet.kp (b_is_alphabet T) .nil pass0 (pa_cons (pv 0) pa_nil)))) (pss_one ps_never) pss_nil)), ?_⟩
    exact ⟨_, rfl, l, rfl, hl, fun H' e => ⟨true, rfl, iteF (q H' e)⟩⟩
def sp_is_count (K : PySem.W.Frag) : Sp := fun vs H Q _ => ∃ i : Nat, vs = [.int (i : Nat)] ∧ Q (.bl true) H
theorem ok_is_count (T : Tx K mg) : FnOk P w K mg base CX0 2 T.a_is_count T.fd_is_count ["value"] (sp_is_count K) := by
  refine T.F_is_count.ok sc_is_count (fun vs H Q E h => ?_) (fun cdv A outer s H vs Q E hr h => ?_)
  · obtain ⟨l, rfl, _⟩ := h
    rfl
  · obtain ⟨i, rfl, q⟩ := h
    refine ⟨_, (pss_one (ps_ret (pe_and (pe_call (ok_is_whole T) (hr.mono (by decide)) (by rfl) T.g_is_whole T.F_is_whole.kp (b_is_whole T) .nil pass0 (pa_cons (pv 0) pa_nil)) (pe_one (pe_cmpR op_ge (pv 0) pe_int (nomark _)))))), ?_⟩
    refine ⟨_, rfl, _, rfl, true, rfl, iteT ?_⟩
    refine ⟨_, rfl, _, 0, rfl, rfl, ?_⟩
    have e : decide (((i : Nat) : Int) ≥ 0) = true := decide_eq_true (by omega)
    show Q (.bl (decide (((i : Nat) : Int) ≥ 0))) H
    rw [e]
    exact q
theorem pow_lt2 {b e : Nat} (hb : b ≤ 4) (he : e ≤ 1000) : b ^ e < 2 ^ 9000 := by
  calc b ^ e ≤ 4 ^ e := Nat.pow_le_pow_left hb e
    _ = 2 ^ (2 * e) := by rw [Nat.pow_mul]
    _ < 2 ^ 9000 := Nat.pow_lt_pow_right (by decide) (by omega)
def sp_raised (K : PySem.W.Frag) : Sp := fun vs H Q _ => ∃ b e : Nat, vs = [.int (b : Nat), .int (e : Nat)] ∧ 1 ≤ b ∧ b ≤ 4 ∧ e ≤ 1000 ∧ Q (.int (b ^ e : Nat)) H
theorem ok_raised (T : Tx K mg) : FnOk P w K mg base CX0 1 T.a_raised T.fd_raised ["base", "exponent"] (sp_raised K) := by
  refine T.F_raised.ok sc_raised (fun vs H Q E h => ?_) (fun cdv A outer s H vs Q E hr h => ?_)
  · obtain ⟨_, _, rfl, _⟩ := h
    rfl
  · obtain ⟨b, e, rfl, b1, b4, e1, q⟩ := h
    refine ⟨_, (pss_cons (ps_set (i := 2) sc_raised.nd rfl (by first | exact Or.inl rfl | exact Or.inr rfl) pe_int) (pss_cons (ps_set (i := 3) sc_raised.nd rfl (by first | exact Or.inl rfl | exact Or.inr rfl) (pv 0)) (pss_cons (ps_set (i := 4) sc_raised.nd rfl (by first | exact Or.inl rfl | exact Or.inr rfl) (pv 1)) (pss_cons (ps_while PassesOwn.never (pt_cmpR op_gt (pv 4) pe_int (nomark _)) (pss_cons (ps_if (pt_truth (pe_op op_odd (pv 4) pe_int) (by intro _; rfl)) (pss_one (ps_set (i := 2) sc_raised.nd rfl (by first | exact Or.inl rfl | exact Or.inr rfl) (pe_op op_mulW (pv 2) (pv 3)))) pss_nil) (pss_cons (ps_set (i := 4) sc_raised.nd rfl (by first | exact Or.inl rfl | exact Or.inr rfl) (pe_op op_halfN (pv 4) pe_int)) (pss_one (ps_if (pt_cmpR op_gt (pv 4) pe_int (nomark _)) (pss_one (ps_set (i := 3) sc_raised.nd rfl (by first | exact Or.inl rfl | exact Or.inr rfl) (pe_op op_mulW (pv 3) (pv 3)))) pss_nil))))) (pss_one (ps_ret (pv 2))))))), ?_⟩
    refine ⟨_, rfl, _, rfl, ?_⟩
    have big := pow_lt2 (b := b) (e := e) b4 e1
    refine ⟨fun m σ' H' => ∃ f s l : Nat, m = l ∧ σ' = [some (.int (b : Nat)), some (.int (e : Nat)), some (.int (f : Nat)), some (.int (s : Nat)), some (.int (l : Nat))] ∧ H' = H ∧ f * s ^ l = b ^ e ∧ 1 ≤ f ∧ 1 ≤ s, ⟨e, 1, b, e, rfl, rfl, rfl, by rw [Nat.one_mul], Nat.le_refl _, b1⟩, fun m σ' H' hw => ?_⟩
    obtain ⟨f, s, l, hm, rfl, rfl, h1, h2, h3⟩ := hw
    refine ⟨_, rfl, _, _, rfl, rfl, _, rfl, ?_⟩
    by_cases hl : 0 < l
    · rw [decide_eq_true (by omega : ((l : Nat) : Int) > 0)]
      have sl : 1 ≤ s ^ l := Nat.one_le_pow _ _ h3
      have fb : f ≤ b ^ e := by
        rw [← h1]
        exact Nat.le_mul_of_pos_right f sl
      have sb : s ≤ b ^ e := by
        rw [← h1]
        have : s ^ 1 ≤ s ^ l := Nat.pow_le_pow_right h3 hl
        rw [Nat.pow_one] at this
        exact Nat.le_trans this (Nat.le_mul_of_pos_left _ h2)
      have f9 := Nat.lt_of_le_of_lt fb big
      have s9 := Nat.lt_of_le_of_lt sb big
      refine iteT ⟨fun σ4 H4 => σ4 = [some (.int (b : Nat)), some (.int (e : Nat)), some (.int ((if l % 2 = 1 then f * s else f : Nat) : Int)), some (.int ((if 0 < l / 2 then s * s else s : Nat) : Int)), some (.int ((l / 2 : Nat) : Int))] ∧ H4 = H', fun σ4 H4 ⟨h4, h5⟩ => ⟨l / 2, by omega, _, _, l / 2, rfl, h4, h5, by rw [Px.halves', h1], ?_, ?_⟩, ?_⟩
      · split
        · exact Nat.mul_pos h2 h3
        · exact h2
      · split
        · exact Nat.mul_pos h3 h3
        · exact h3
      · by_cases ho : l % 2 = 1
        · refine ⟨_, rfl, l, rfl, rfl, true, (by show true = (((l % 2 : Nat) : Int) != 0); rw [ho]; rfl), iteT ?_⟩
          refine ⟨_, rfl, _, rfl, _, _, rfl, rfl, mul_ok (abs_nat f9) (abs_nat s9), ?_⟩
          refine ⟨_, rfl, l, rfl, rfl, ?_⟩
          refine ⟨_, rfl, _, _, rfl, rfl, _, rfl, ?_⟩
          by_cases h : 0 < l / 2
          · rw [decide_eq_true (by omega : (0 : Int) < ((l / 2 : Nat) : Int))]
            refine iteT ⟨_, rfl, _, rfl, _, _, rfl, rfl, mul_ok (abs_nat s9) (abs_nat s9), ?_, rfl⟩
            rw [if_pos h, if_pos ho, Int.natCast_mul, Int.natCast_mul]
            rfl
          · rw [decide_eq_false (by omega : ¬ (0 : Int) < ((l / 2 : Nat) : Int))]
            refine iteF ⟨?_, rfl⟩
            rw [if_neg h, if_pos ho, Int.natCast_mul]
            rfl
        · have he : l % 2 = 0 := by omega
          refine ⟨_, rfl, l, rfl, rfl, false, (by show false = (((l % 2 : Nat) : Int) != 0); rw [he]; rfl), iteF ?_⟩
          refine ⟨_, rfl, l, rfl, rfl, ?_⟩
          refine ⟨_, rfl, _, _, rfl, rfl, _, rfl, ?_⟩
          by_cases h : 0 < l / 2
          · rw [decide_eq_true (by omega : (0 : Int) < ((l / 2 : Nat) : Int))]
            refine iteT ⟨_, rfl, _, rfl, _, _, rfl, rfl, mul_ok (abs_nat s9) (abs_nat s9), ?_, rfl⟩
            rw [if_pos h, if_neg ho, Int.natCast_mul]
            rfl
          · rw [decide_eq_false (by omega : ¬ (0 : Int) < ((l / 2 : Nat) : Int))]
            refine iteF ⟨?_, rfl⟩
            rw [if_neg h, if_neg ho]
            rfl
    · rw [decide_eq_false (by omega : ¬ ((l : Nat) : Int) > 0)]
      have : l = 0 := by omega
      subst this
      rw [Nat.pow_zero, Nat.mul_one] at h1
      subst h1
      exact ⟨_, rfl, q⟩
end
end K04
set_option Elab.async false
set_option linter.all false
set_option maxRecDepth 100000
set_option maxHeartbeats 4000000
namespace K04
open PySem PySem.Spec PyProof.Rows L2 Evl Bx
open Px
section
variable {P : Program} {w : World} {K : PySem.W.Frag} {mg : Str → Option Value} {base : Heap}
def sqs (b c : Nat) : List Int := (List.range c).map fun i => ((b ^ 2 ^ i : Nat) : Int)
theorem sqs_len (b c : Nat) : (sqs b c).length = c := by simp [sqs]
theorem sqs_at {b c i : Nat} (h : i < c) : (sqs b c)[i]? = some ((b ^ 2 ^ i : Nat) : Int) := by
  unfold sqs
  rw [List.getElem?_map, List.getElem?_range h]
  rfl
theorem few {b c n : Nat} (hb : 2 ≤ b) (hn : n < 2 ^ 1000) (h : b ^ 2 ^ c ≤ n) : c < 10 := by
  apply Decidable.byContradiction
  intro z
  have h1 : 2 ^ 10 ≤ 2 ^ c := Nat.pow_le_pow_right (by decide) (by omega)
  have h2 : 2 ^ 2 ^ c ≤ b ^ 2 ^ c := Nat.pow_le_pow_left hb _
  have h3 : (2 : Nat) ^ 1000 ≤ 2 ^ 2 ^ c := Nat.pow_le_pow_right (by decide) (by omega)
  omega
def sp_greatest (K : PySem.W.Frag) : Sp := fun vs H Q _ => ∃ b n e : Nat, vs = [.int (b : Nat), .int (n : Nat)] ∧ 2 ≤ b ∧ 1 ≤ n ∧ n < 2 ^ 1000 ∧ Gre b n e ∧ ∀ H', Ex H H' → Q (.int (e : Nat)) H'
theorem ok_greatest_exponent (T : Tx K mg) : FnOk P w K mg base CX0 1 T.a_greatest_exponent T.fd_greatest_exponent ["base", "number"] (sp_greatest K) := by
  refine T.F_greatest_exponent.ok sc_greatest_exponent (fun vs H Q E h => ?_) (fun cdv A outer s H vs Q E hr h => ?_)
  · obtain ⟨_, _, _, rfl, _⟩ := h
    rfl
  · obtain ⟨b, n, e, rfl, b2, n1, n2, ge, q⟩ := h
    refine ⟨_, (pss_cons (ps_set (i := 2) sc_greatest_exponent.nd rfl (by first | exact Or.inl rfl | exact Or.inr rfl) (pe_lst pa_nil)) (pss_cons (ps_set (i := 3) sc_greatest_exponent.nd rfl (by first | exact Or.inl rfl | exact Or.inr rfl) (pv 0)) (pss_cons (ps_while PassesOwn.never (pt_cmpR op_le (pv 3) (pv 1) (nomark _)) (pss_cons (ps_expr (pe_bm PySem.F.plainAttrs_list PySem.F.slot_list_append PySem.F.type_list_append mt_append (pv 2) (pa_cons (pv 3) pa_nil))) (pss_one (ps_set (i := 3) sc_greatest_exponent.nd rfl (by first | exact Or.inl rfl | exact Or.inr rfl) (pe_op op_mulW (pv 3) (pv 3)))))) (pss_cons (ps_set (i := 4) sc_greatest_exponent.nd rfl (by first | exact Or.inl rfl | exact Or.inr rfl) pe_int) (pss_cons (ps_set (i := 5) sc_greatest_exponent.nd rfl (by first | exact Or.inl rfl | exact Or.inr rfl) pe_int) (pss_cons (ps_for PassesOwn.never rfl (pi_revR (by rfl) T.n_reversed (prg_1 (by rfl) T.n_range (pe_callB call_len_seq (by rfl) T.n_len (by decide +kernel) (pa_cons (pv 2) pa_nil)))) (pg_name (i := 6) sc_greatest_exponent.nd rfl (by first | exact Or.inl rfl | exact Or.inr rfl)) (pss_one (ps_if (pt_cmpR op_le (pe_op op_mulW (pv 5) (pe_ix ix_list (pv 2) (pv 6) (fun _ _ => rfl))) (pv 1) (nomark _)) (pss_cons (ps_set (i := 5) sc_greatest_exponent.nd rfl (by first | exact Or.inl rfl | exact Or.inr rfl) (pe_op op_mulW (pv 5) (pe_ix ix_list (pv 2) (pv 6) (fun _ _ => rfl)))) (pss_one (ps_set (i := 4) sc_greatest_exponent.nd rfl (by first | exact Or.inl rfl | exact Or.inr rfl) (pe_op op_add (pv 4) (pe_op op_shlN pe_int (pv 6)))))) pss_nil))) (pss_one (ps_ret (pv 4))))))))), ?_⟩
    have up : ∀ x : Nat, x ≤ n → x < 2 ^ 9000 := fun x hx => Nat.lt_of_le_of_lt hx (Nat.lt_trans n2 (Nat.pow_lt_pow_right (by decide) (by decide)))
    refine ⟨by show 0 ≤ sizeLine; decide, fun p np => ?_⟩
    refine ⟨_, rfl, ?_⟩
    refine ⟨fun m σ' H' => ∃ c : Nat, m = n + 1 - b ^ 2 ^ c ∧ σ' = [some (.int (b : Nat)), some (.int (n : Nat)), some (.ref p), some (.int ((b ^ 2 ^ c : Nat) : Int)), none, none, none] ∧ Ex H H' ∧ H' p = some (.lst ((sqs b c).map V.int)) ∧ (∀ i, i < c → b ^ 2 ^ i ≤ n), ⟨_, 0, rfl, by rw [Nat.pow_zero, Nat.pow_one]; rfl, Ex.new np, upd_same, fun i hi => by omega⟩, fun m σ' H' hw => ?_⟩
    obtain ⟨c, hm, rfl, a1, a2, a3⟩ := hw
    refine ⟨_, rfl, _, rfl, _, _, rfl, rfl, _, rfl, ?_⟩
    by_cases hc : b ^ 2 ^ c ≤ n
    · have c10 := few b2 n2 hc
      rw [decide_eq_true (by omega : ((b ^ 2 ^ c : Nat) : Int) ≤ ((n : Nat) : Int))]
      have grow : b ^ 2 ^ c < b ^ 2 ^ (c + 1) := Nat.pow_lt_pow_right (by omega) (Nat.pow_lt_pow_right (by decide) (by omega))
      have sq : b ^ 2 ^ c * b ^ 2 ^ c = b ^ 2 ^ (c + 1) := by
        rw [← Nat.pow_add]
        congr 1
        rw [Nat.pow_succ]
        omega
      refine iteT ⟨fun σ4 H4 => ∃ o, H4 = upd H' p o ∧ o = .lst ((sqs b (c + 1)).map V.int) ∧ σ4 = [some (.int (b : Nat)), some (.int (n : Nat)), some (.ref p), some (.int ((b ^ 2 ^ (c + 1) : Nat) : Int)), none, none, none], fun σ4 H4 ⟨o, h4, h5, h6⟩ => ⟨_, by rw [hm]; show n + 1 - b ^ 2 ^ (c + 1) < _; omega, c + 1, rfl, h6, by rw [h4]; exact Ex.mut a1 np, by rw [h4, h5, upd_same], fun i hi => ?_⟩, ?_⟩
      · by_cases z : i < c
        · exact a3 i z
        · have : i = c := by omega
          rw [this]
          exact hc
      · refine ⟨_, rfl, .inl ⟨rfl, _, .inl (.inl a2)⟩, _, rfl, p, _, _, rfl, rfl, a2, by rw [List.length_map, sqs_len]; exact sz_lt (by omega), ?_⟩
        refine ⟨_, rfl, _, rfl, _, _, rfl, rfl, mul_ok (abs_nat (up _ hc)) (abs_nat (up _ hc)), _, rfl, ?_, ?_⟩
        · unfold sqs
          rw [List.range_succ, List.map_append, List.map_append]
          rfl
        · rw [← sq, Int.natCast_mul]
          rfl
    · rw [decide_eq_false (by omega : ¬ ((b ^ 2 ^ c : Nat) : Int) ≤ ((n : Nat) : Int))]
      refine iteF ?_
      have c11 : c ≤ 10 := by
        cases c with
        | zero => omega
        | succ c => have := few b2 n2 (a3 c (by omega)); omega
      have hc' : n < b ^ 2 ^ c := by omega
      dsimp only [tNext, tSeq, tAsg, tC, gName]
      -- from the greatest square down
      refine forRv (n := (c : Int)) (fun H1 e1 Q' q' => ⟨_, rfl, p, _, rfl, .inl (.inl (.inl (e1 _ _ a2))), by rw [List.length_map, sqs_len]; exact q' H1 (Ex.refl _)⟩) (by omega)
        (fun k σ2 H2 => ∃ (ex : Nat) (y6 : Option V), σ2 = [some (.int (b : Nat)), some (.int (n : Nat)), some (.ref p), some (.int ((b ^ 2 ^ c : Nat) : Int)), some (.int (ex : Nat)), some (.int ((b ^ ex : Nat) : Int)), y6] ∧ Ex H' H2 ∧ b ^ ex ≤ n ∧ n < b ^ (ex + 2 ^ (c - k))) (fun H1 e1 => ⟨0, _, rfl, e1, by rw [Nat.pow_zero]; exact n1, by rw [Nat.zero_add]; exact hc'⟩) (fun k σ2 H2 hk hp => ?_) (fun σ2 H2 hp => ?_)
      · obtain ⟨ex, y6, rfl, b1, b3, b4⟩ := hp
        have hkc : k < c := by omega
        have ej : (c : Int) - 1 - k = ((c - 1 - k : Nat) : Int) := by omega
        rw [ej]
        have ek : c - k = (c - 1 - k) + 1 := by omega
        rw [ek] at b4
        have st := gre_step b3 b4
        have hsq := a3 (c - 1 - k) (by omega)
        have hat : atI ((sqs b c).map V.int) ((c - 1 - k : Nat) : Int) = some (V.int ((b ^ 2 ^ (c - 1 - k) : Nat) : Int)) := atI_nat (by rw [List.getElem?_map, sqs_at (by omega)]; rfl)
        have hp2 := b1 _ _ a2
        refine ⟨_, rfl, _, rfl, _, rfl, p, _, _, _, rfl, rfl, .inl (.inl hp2), hat, _, _, rfl, rfl, mul_ok (abs_nat (up _ b3)) (abs_nat (up _ hsq)), _, rfl, _, _, rfl, rfl, _, rfl, ?_⟩
        have ck : c - (k + 1) = c - 1 - k := by omega
        by_cases h : b ^ ex * b ^ 2 ^ (c - 1 - k) ≤ n
        · have dt : decide (((b ^ ex : Nat) : Int) * ((b ^ 2 ^ (c - 1 - k) : Nat) : Int) ≤ ((n : Nat) : Int)) = true := decide_eq_true (by rw [← Int.natCast_mul]; omega)
          rw [dt]
          obtain ⟨s1, s2⟩ := st.1 h
          refine iteT ⟨_, rfl, _, rfl, _, rfl, p, _, _, _, rfl, rfl, .inl (.inl hp2), hat, _, _, rfl, rfl, mul_ok (abs_nat (up _ b3)) (abs_nat (up _ hsq)), ?_⟩
          refine ⟨_, rfl, _, rfl, 1, c - 1 - k, rfl, rfl, ⟨by omega, ?_⟩, _, _, rfl, rfl, ex + 2 ^ (c - 1 - k), some (.int ((c - 1 - k : Nat) : Int)), ?_, b1, s1, by rw [ck]; exact s2⟩
          · have : ((Builtin.Int.intBits 1 : Nat) : Int) = 1 := by rfl
            rw [this]
            omega
          · rw [Int.one_mul, Nat.pow_add, Int.natCast_mul, Int.natCast_add, Int.natCast_pow 2]
            rfl
        · have dt : decide (((b ^ ex : Nat) : Int) * ((b ^ 2 ^ (c - 1 - k) : Nat) : Int) ≤ ((n : Nat) : Int)) = false := decide_eq_false (by rw [← Int.natCast_mul]; omega)
          rw [dt]
          refine iteF ⟨ex, _, rfl, b1, b3, by rw [ck]; exact st.2 h⟩
      · obtain ⟨ex, y6, rfl, b1, b3, b4⟩ := hp
        rw [Int.toNat_natCast, Nat.sub_self, Nat.pow_zero] at b4
        have : ex = e := gre_one b2 ⟨b3, b4⟩ ge
        subst this
        exact ⟨_, rfl, q H2 (a1.trans b1)⟩
end
end K04
set_option Elab.async false
set_option linter.all false
set_option maxRecDepth 100000
set_option maxHeartbeats 4000000
namespace Bx
open PySem PySem.Spec PyProof.Rows L2 Evl PySem.StrLaws
theorem occ_full (s sub : Str) (hi : Nat) : ∀ (l : List Nat) (st : Array Nat × Nat), 1 ≤ st.fst.size → (forIn l st (occBody s sub hi 1)).run.fst = st.fst
  | [], st, _ => rfl
  | a :: l, st, h => by
    rw [List.forIn_cons]
    unfold occBody
    rw [if_neg (fun z => by
      have := z.1.1.1
      omega)]
    exact occ_full s sub hi l _ h
theorem occ_hit (s sub : Str) (hi k : Nat) (post : List Nat) (hk : k + sub.length ≤ hi ∧ Builtin.Str.subAt s sub k = true) : ∀ (pre : List Nat) (free : Nat), (∀ i ∈ pre ++ k :: post, free ≤ i) →
    (∀ i ∈ pre, ¬ (i + sub.length ≤ hi ∧ Builtin.Str.subAt s sub i = true)) → (forIn (pre ++ k :: post) ((#[] : Array Nat), free) (occBody s sub hi 1)).run.fst = #[k]
  | [], free, hf, _ => by
    rw [List.nil_append, List.forIn_cons]
    unfold occBody
    rw [if_pos ⟨⟨⟨by simp, hf k (by simp)⟩, hk.1⟩, hk.2⟩]
    exact occ_full s sub hi post _ (by simp)
  | a :: pre, free, hf, hn => by
    rw [List.cons_append, List.forIn_cons]
    unfold occBody
    rw [if_neg (fun z => hn a (by simp) ⟨z.1.2, z.2⟩)]
    exact occ_hit s sub hi k post hk pre free (fun i hi' => hf i (by rw [List.cons_append]; exact List.mem_cons_of_mem _ hi')) fun i hi' => hn i (List.mem_cons_of_mem _ hi')
/-- where a letter stands first -/
theorem index_one {L : List Nat} {c k : Nat} (hk : L[k]? = some c) (hn : ∀ j, j < k → L[j]? ≠ some c) : Builtin.Str.occurrences (mk L) (mk [c]) 0 (mk L).length 1 = [k] := by
  rw [occ_eq]
  have lt : k < L.length := (List.getElem?_eq_some_iff.mp hk).1
  have e : List.range' 0 ((mk L).length + 1 - 0) = List.range' 0 k ++ k :: List.range' (k + 1) (L.length - k) := by
    rw [mk_len, Nat.sub_zero]
    have e1 : L.length + 1 = k + (1 + (L.length - k)) := by omega
    rw [e1, ← List.range'_append_1, Nat.zero_add, Nat.add_comm 1, List.range'_succ]
  rw [e, occ_hit (mk L) (mk [c]) (mk L).length k _ ((subAt_one (mk L) c k).mpr hk) _ 0 (fun _ _ => Nat.zero_le _) fun i hi z => ?_]
  have := (subAt_one (mk L) c i).mp z
  refine hn i ?_ this
  have := List.mem_range'_1.mp hi
  omega
theorem lower_low {l : List Nat} (h : Low l) : Txt.lower (mk l) = mk l := by
  rw [lower_ascii fun c hc => by
    have := h c hc
    omega]
  have e : (mk l).cps.map lo1 = (mk l).cps := by
    apply Array.ext'
    rw [Array.toList_map]
    show l.map lo1 = l
    conv => rhs; rw [← List.map_id l]
    apply List.map_congr_left
    intro c hc
    have := h c hc
    unfold lo1
    rw [if_neg (by omega)]
    rfl
  rw [e]
end Bx
set_option Elab.async false
set_option linter.all false
set_option maxRecDepth 100000
set_option maxHeartbeats 4000000
namespace Bx
open PySem PySem.Spec PyProof.Rows L2 Evl
theorem joinL_nil : ∀ ps : List (List Nat), TL.joinL [] ps = ps.flatten
  | [] => rfl
  | [p] => by simp [TL.joinL]
  | p :: q :: r => by
    show p ++ ([] ++ TL.joinL [] (q :: r)) = _
    rw [joinL_nil (q :: r)]
    rfl
theorem join_mk (ps : List (List Nat)) : Txt.join (mk []) (ps.map mk) = mk ps.flatten := by
  rw [TL.join_eq]
  have h := TL.tl_join (mk []) (ps.map mk)
  rw [List.map_map] at h
  have e : (ps.map (TL.tl ∘ mk)) = ps := by
    conv => rhs; rw [← List.map_id ps]
    exact List.map_congr_left fun _ _ => rfl
  rw [e] at h
  have h2 : TL.tl (Str.join (mk []) (ps.map mk)) = ps.flatten := by
    rw [h]
    exact joinL_nil ps
  rw [mk_eq (Str.join (mk []) (ps.map mk))]
  exact congrArg mk h2
theorem sing_flat (t : List Nat) : (t.map fun c => [c]).flatten = t := by
  induction t with
  | nil => rfl
  | cons c t ih => simp only [List.map_cons, List.flatten_cons, ih]; rfl
theorem join_signs (t : List Nat) : Txt.join (mk []) (t.map fun c => mk [c]) = mk t := by
  have h := join_mk (t.map fun c => [c])
  rw [List.map_map, sing_flat] at h
  exact h
theorem len_signs (t : List Nat) : ((t.map fun c => mk [c]).map (·.length)).sum = t.length := by
  induction t with
  | nil => rfl
  | cons c t ih =>
    simp only [List.map_cons, List.sum_cons, List.length_cons, ih]
    rw [mk_len]
    simp
    omega
/-! ### the draws of a law -/
/-- a generator's list: what is left of a great seed, the small one, the number of draws, at most n -/
def Gen (H : Hp) (g : Addr) (n : Nat) : Prop := ∃ b s c : Int, H g = some (.lst [.int b, .int s, .int c]) ∧ 0 ≤ b ∧ b < 2 ^ 3000 ∧ 0 ≤ s ∧ s < 2147483647 ∧ 0 ≤ c ∧ c ≤ n
theorem Gen.ex {H H' : Hp} {g : Addr} {n : Nat} (h : Gen H g n) (e : Ex H H') : Gen H' g n := let ⟨b, s, c, h1, r⟩ := h; ⟨b, s, c, e _ _ h1, r⟩
theorem Gen.up {H : Hp} {g : Addr} {n m : Nat} (h : Gen H g n) (e : n ≤ m) : Gen H g m := let ⟨b, s, c, h1, h2, h3, h4, h5, h6, h7⟩ := h; ⟨b, s, c, h1, h2, h3, h4, h5, h6, by omega⟩
theorem Gen.there {H : Hp} {g : Addr} {n : Nat} (h : Gen H g n) : H g ≠ none := fun e => by
  obtain ⟨b, s, c, h1, _⟩ := h
  rw [h1] at e
  cases e
theorem Gen.ne {H : Hp} {g p : Addr} {n : Nat} (h : Gen H g n) (e : H p = none) : g ≠ p := fun z => h.there (by rw [z]; exact e)
theorem Gen.oth {H : Hp} {g p : Addr} {n : Nat} {o : HO} (h : Gen H g n) (e : g ≠ p) : Gen (upd H p o) g n := let ⟨b, s, c, h1, r⟩ := h; ⟨b, s, c, by rw [upd_ne e]; exact h1, r⟩
theorem bits_le {i : Int} {n : Nat} (h0 : 0 < n) (h : i.natAbs < 2 ^ n) : Builtin.Int.intBits i ≤ n := by
  unfold Builtin.Int.intBits
  split
  · omega
  · have := PySem.Flt.log2_lt_of h0 h
    omega
theorem mid_abs {i : Int} (h : i.natAbs < 2 ^ 200) : i.natAbs < 2 ^ 9000 := Nat.lt_of_lt_of_le h (Nat.pow_le_pow_right (by decide) (by decide))
theorem Xg.ne {g : Addr} {H H' : Hp} {p : Addr} {o : HO} (e : Xg g H H') (h : H p = some o) (n : p ≠ g) : H' p = some o := e p o n h
theorem Xg.mut {g : Addr} {H H' : Hp} {p : Addr} {o : HO} (e : Xg g H H') (h : H p = none) : Xg g H (L2.upd H' p o) := fun a u n ha => by
  rw [upd_ne (ne_of_none ha h)]
  exact e a u n ha
theorem Xg.ex {g : Addr} {H H1 H2 : Hp} (a : Xg g H H1) (b : Ex H1 H2) : Xg g H H2 := a.trans (Xg.of b)
end Bx
set_option Elab.async false
set_option linter.all false
set_option maxRecDepth 100000
set_option maxHeartbeats 4000000
namespace K04
open PySem PySem.Spec PyProof.Rows L2 Evl Bx
open Px
section
variable {P : Program} {w : World} {K : PySem.W.Frag} {mg : Str → Option Value} {base : Heap}
def sp_size (K : PySem.W.Frag) : Sp := fun vs H Q _ => ∃ (m : Nat) (l : List Nat), vs = [.int (m : Nat), .int (num m l 0 : Nat)] ∧ 1 ≤ m ∧ m ≤ 4 ∧ (∀ i ∈ l, i < m) ∧ l.length ≤ 301 ∧ ∀ H', Ex H H' → Q (.int (l.length : Nat)) H'
theorem ok_size_of_numbered (T : Tx K mg) : FnOk P w K mg base CX0 2 T.a_size_of_numbered T.fd_size_of_numbered ["many", "number"] (sp_size K) := by
  refine T.F_size_of_numbered.ok sc_size_of_numbered (fun vs H Q E h => ?_) (fun cdv A outer s H vs Q E hr h => ?_)
  · obtain ⟨_, _, rfl, _⟩ := h
    rfl
  · obtain ⟨m, l, rfl, m1, m4, hl, l3, q⟩ := h
    refine ⟨_, (pss_cons (ps_if (pt_cmpR op_eq (pv 0) pe_int (nomark _)) (pss_one (ps_ret (pv 1))) pss_nil) (pss_one (ps_ret (pe_call (ok_greatest_exponent T) (hr.mono (by decide)) (by rfl) T.g_greatest_exponent T.F_greatest_exponent.kp (b_greatest_exponent T) .nil pass0 (pa_cons (pv 0) (pa_cons (pe_op op_add (pe_op op_mulW (pv 1) (pe_op op_sub (pv 0) pe_int)) pe_int) pa_nil)))))), ?_⟩
    refine ⟨_, rfl, rfl, _, rfl, ite2 (fun h => ?_) (fun h => ?_)⟩
    · have e1 : m = 1 := by
        have := V.int.inj (of_decide_eq_true h)
        omega
      subst e1
      refine ⟨_, rfl, ?_⟩
      rw [num_one l 0 hl, Nat.zero_add]
      exact q H (Ex.refl H)
    · have e1 : m ≠ 1 := fun z => h (decide_eq_true (by rw [z]; rfl))
      obtain ⟨b1, b2⟩ := num_between m1 hl
      have big := num_big m4 hl (by omega)
      have big2 : num m l 0 < 2 ^ 9000 := Nat.lt_trans big (Nat.pow_lt_pow_right (by decide) (by decide))
      have em : ((m : Nat) : Int) - 1 = ((m - 1 : Nat) : Int) := by omega
      have small : (((m : Nat) : Int) - 1).natAbs < 18446744073709551616 := by omega
      refine ⟨_, rfl, _, rfl, _, rfl, _, 1, rfl, rfl, _, _, rfl, rfl, mul_ok (abs_nat big2) (small_abs small), _, 1, rfl, rfl, m, num m l 0 * (m - 1) + 1, l.length, ?_, by omega, by omega, ?_, ⟨b1, b2 (by omega)⟩, fun H' e => q H' e⟩
      · rw [em, ← Int.natCast_mul]
        rfl
      · have h2 : num m l 0 * (m - 1) ≤ num m l 0 * 3 := Nat.mul_le_mul_left _ (by omega)
        have h3 : (2 : Nat) ^ 990 * 4 < 2 ^ 1000 := by decide +kernel
        omega
/-- the places of a text's letters -/
def ixs (L t : List Nat) : List Nat := t.map fun c => L.idxOf c
theorem ixs_lt {L t : List Nat} (h : ∀ c ∈ t, c ∈ L) : ∀ i ∈ ixs L t, i < L.length := fun i hi => by
  obtain ⟨c, hc, rfl⟩ := List.mem_map.mp hi
  exact List.idxOf_lt_length_iff.mpr (h c hc)
def sp_numof (K : PySem.W.Frag) : Sp := fun vs H Q _ => ∃ (L t : List Nat), vs = [tx L, tx t] ∧ Alph L ∧ (∀ c ∈ t, c ∈ L) ∧ t.length ≤ 300 ∧ ∀ H', Ex H H' → Q (.int (num L.length (ixs L t) 0 : Nat)) H'
theorem ok_number_of_text (T : Tx K mg) : FnOk P w K mg base CX0 1 T.a_number_of_text T.fd_number_of_text ["letters", "text"] (sp_numof K) := by
  refine T.F_number_of_text.ok sc_number_of_text (fun vs H Q E h => ?_) (fun cdv A outer s H vs Q E hr h => ?_)
  · obtain ⟨_, _, rfl, _⟩ := h
    rfl
  · obtain ⟨L, t, rfl, aL, ct, lt, q⟩ := h
    refine ⟨_, (pss_cons (ps_set (i := 2) sc_number_of_text.nd rfl (by first | exact Or.inl rfl | exact Or.inr rfl) pe_int) (pss_cons (ps_for PassesOwn.never rfl (pi_str (pv 1)) (pg_name (i := 3) sc_number_of_text.nd rfl (by first | exact Or.inl rfl | exact Or.inr rfl)) (pss_one (ps_set (i := 2) sc_number_of_text.nd rfl (by first | exact Or.inl rfl | exact Or.inr rfl) (pe_op op_add (pe_op op_add (pe_op op_mulW (pv 2) (pe_callB call_len_str (by rfl) T.n_len (by decide +kernel) (pa_cons (pv 0) pa_nil))) (pe_bm PySem.F.plainAttrs_str PySem.F.slot_str_index PySem.F.type_str_index mt_sindex (pv 0) (pa_cons (pv 3) pa_nil))) pe_int)))) (pss_one (ps_ret (pv 2))))), ?_⟩
    have l4 := aL.four
    dsimp only [tNext, tSeq, tAsg, tC, gName]
    refine forS (l := t) (ev_var rfl) (fun i σ' H' => ∃ y3, σ' = [some (tx L), some (tx t), some (.int (num L.length (ixs L (t.take i)) 0 : Nat)), y3] ∧ Ex H H') (fun H1 e1 => ⟨_, rfl, e1⟩) (fun i c σ' H' hc hp => ?_) (fun σ' H' hp => ?_)
    · obtain ⟨y3, rfl, a1⟩ := hp
      have hcL := ct c (List.mem_of_getElem? hc)
      have hlt := List.idxOf_lt_length_iff.mpr hcL
      have hk : L[L.idxOf c]? = some c := by rw [List.getElem?_eq_getElem hlt, List.getElem_idxOf hlt]
      have first : ∀ j, j < L.idxOf c → L[j]? ≠ some c := fun j hj e => by
        have h1 := (List.getElem?_eq_some_iff.mp e).1
        have h2 := (List.getElem?_inj h1 (lt_nodup aL.up)).mp (e.trans hk.symm)
        omega
      have et : ixs L (t.take (i + 1)) = ixs L (t.take i) ++ [L.idxOf c] := by
        unfold ixs
        rw [List.take_add_one, hc, List.map_append]
        rfl
      have big := num_big l4 (ixs_lt (L := L) (t := t.take i) fun d hd => ct d (List.mem_of_mem_take hd)) (by unfold ixs; rw [List.length_map, List.length_take]; omega)
      have big2 : num L.length (ixs L (t.take i)) 0 < 2 ^ 9000 := Nat.lt_trans big (Nat.pow_lt_pow_right (by decide) (by decide))
      refine ⟨_, rfl, _, rfl, mk L, rfl, by rw [mk_len]; exact sz_of (by omega), _, _, rfl, rfl, by rw [mk_len]; exact mul_ok (abs_nat big2) (abs_nat (small_pow (by omega))), ?_⟩
      refine ⟨_, rfl, rfl, _, rfl, mk L, mk [c], L.idxOf c, [], rfl, rfl, index_one hk first, _, _, rfl, rfl, _, 1, rfl, rfl, some (tx [c]), ?_, a1⟩
      rw [et, num_snoc, mk_len, Int.natCast_add, Int.natCast_add, Int.natCast_mul]
      rfl
    · obtain ⟨y3, rfl, a1⟩ := hp
      rw [List.take_of_length_le (Nat.le_refl _)]
      exact ⟨_, rfl, q H' a1⟩
end
end K04
set_option Elab.async false
set_option linter.all false
set_option maxRecDepth 100000
set_option maxHeartbeats 4000000
namespace K04
open PySem PySem.Spec PyProof.Rows L2 Evl Bx
open Px
section
variable {P : Program} {w : World} {K : PySem.W.Frag} {mg : Str → Option Value} {base : Heap}
def sp_numbered (K : PySem.W.Frag) : Sp := fun vs H Q _ => ∃ (L t : List Nat), vs = [tx L, .int (num L.length (ixs L t) 0 : Nat)] ∧ Alph L ∧ (∀ c ∈ t, c ∈ L) ∧ t.length ≤ 300 ∧ ∀ H', Ex H H' → Q (tx t) H'
theorem ok_text_numbered (T : Tx K mg) : FnOk P w K mg base CX0 4 T.a_text_numbered T.fd_text_numbered ["letters", "number"] (sp_numbered K) := by
  refine T.F_text_numbered.ok sc_text_numbered (fun vs H Q E h => ?_) (fun cdv A outer s H vs Q E hr h => ?_)
  · obtain ⟨_, _, rfl, _⟩ := h
    rfl
  · obtain ⟨L, t, rfl, aL, ct, lt, q⟩ := h
    refine ⟨_, (pss_cons (ps_expr (pe_call (ok_need_letters T) (hr.mono (by decide)) (by rfl) T.g_need_letters T.F_need_letters.kp (b_need_letters T) .nil pass0 (pa_cons (pv 0) pa_nil))) (pss_cons (ps_if (pt_not (pt_val (pe_call (ok_is_count T) (hr.mono (by decide)) (by rfl) T.g_is_count T.F_is_count.kp (b_is_count T) .nil pass0 (pa_cons (pv 1) pa_nil)))) (pss_one ps_never) pss_nil) (pss_cons (ps_set (i := 2) sc_text_numbered.nd rfl (by first | exact Or.inl rfl | exact Or.inr rfl) (pe_call (ok_size_of_numbered T) (hr.mono (by decide)) (by rfl) T.g_size_of_numbered T.F_size_of_numbered.kp (b_size_of_numbered T) .nil pass0 (pa_cons (pe_callB call_len_str (by rfl) T.n_len (by decide +kernel) (pa_cons (pv 0) pa_nil)) (pa_cons (pv 1) pa_nil)))) (pss_cons (ps_if (pt_cmpR op_gt (pv 2) (pe_glob (v := .int 300) (by rfl) T.c_MOST_IN_TEXT ⟨_, rfl⟩) (nomark _)) (pss_one ps_never) pss_nil) (pss_cons (ps_set (i := 3) sc_text_numbered.nd rfl (by first | exact Or.inl rfl | exact Or.inr rfl) (pe_lst pa_nil)) (pss_cons (ps_set (i := 4) sc_text_numbered.nd rfl (by first | exact Or.inl rfl | exact Or.inr rfl) (pv 1)) (pss_cons (ps_while PassesOwn.never (pt_cmpR op_gt (pv 4) pe_int (nomark _)) (pss_cons (ps_set (i := 4) sc_text_numbered.nd rfl (by first | exact Or.inl rfl | exact Or.inr rfl) (pe_op op_sub (pv 4) pe_int)) (pss_cons (ps_expr (pe_bm PySem.F.plainAttrs_list PySem.F.slot_list_append PySem.F.type_list_append mt_append (pv 3) (pa_cons (pe_ix ix_str (pv 0) (pe_op op_mod (pv 4) (pe_callB call_len_str (by rfl) T.n_len (by decide +kernel) (pa_cons (pv 0) pa_nil))) (fun _ _ => rfl)) pa_nil))) (pss_one (ps_set (i := 4) sc_text_numbered.nd rfl (by first | exact Or.inl rfl | exact Or.inr rfl) (pe_op op_fdivW (pv 4) (pe_callB call_len_str (by rfl) T.n_len (by decide +kernel) (pa_cons (pv 0) pa_nil)))))))) (pss_one (ps_ret (pe_join pe_str (pe_revL (pv 3)))))))))))), ?_⟩
    have l4 := aL.four
    have l1 := aL.one
    have lx : (ixs L t).length = t.length := by unfold ixs; rw [List.length_map]
    refine ⟨_, rfl, L, rfl, aL, fun H1 e1 => ?_⟩
    refine ⟨_, rfl, _, rfl, true, rfl, iteF ?_⟩
    refine ⟨_, rfl, mk L, rfl, by rw [mk_len]; exact sz_of (by omega), _, rfl, L.length, ixs L t, by rw [mk_len]; rfl, l1, l4, ixs_lt ct, by omega, fun H2 e2 => ?_⟩
    refine ⟨_, rfl, _, 300, rfl, rfl, _, rfl, ?_⟩
    rw [lx, decide_eq_false (by omega : ¬ ((t.length : Nat) : Int) > 300)]
    refine iteF ?_
    refine ⟨by show 0 ≤ sizeLine; decide, fun p np => ?_⟩
    refine ⟨_, rfl, ?_⟩
    have x2 : Ex H (upd H2 p (.lst [])) := (e1.trans e2).trans (Ex.new np)
    have fp : H p = none := fresh_back (e1.trans e2) np
    refine ⟨fun m σ' H' => ∃ l s : List Nat, m = l.length ∧ t = l ++ s ∧ σ' = [some (tx L), some (.int (num L.length (ixs L t) 0 : Nat)), some (.int (t.length : Nat)), some (.ref p), some (.int (num L.length (ixs L l) 0 : Nat))] ∧ Ex H H' ∧ H' p = some (.lst ((s.reverse.map fun c => mk [c]).map V.str)), ⟨_, t, [], rfl, by rw [List.append_nil], by rw [← lx]; rfl, x2, upd_same⟩, fun m σ' H' hw => ?_⟩
    obtain ⟨l, s, rfl, ht, rfl, a1, a2⟩ := hw
    have cl : ∀ c ∈ l, c ∈ L := fun c hc => ct c (by rw [ht]; exact List.mem_append_left _ hc)
    have llen : l.length + s.length = t.length := by rw [ht, List.length_append]
    refine ⟨_, rfl, _, 0, rfl, rfl, _, rfl, ?_⟩
    by_cases hl : l = []
    · subst hl
      refine iteF ?_
      refine ⟨⟨_, rfl⟩, _, rfl, p, _, rfl, .inl (.inl a2), fun z nz => ?_⟩
      have er : ((s.reverse.map fun c => mk [c]).map V.str).reverse = (s.map fun c => mk [c]).map V.str := by
        rw [← List.map_reverse, ← List.map_reverse, List.reverse_reverse]
      rw [er]
      have es : s = t := by rw [ht]; rfl
      subst es
      refine ⟨mk [], z, s.map fun c => mk [c], by rfl, rfl, .inl (.inl (.inl upd_same)), ?_, ?_⟩
      · rw [Bx.len_signs, List.length_map, mk_len]
        simp
        omega
      · rw [join_signs]
        exact q _ (a1.trans (Ex.new nz))
    · obtain ⟨l', c, rfl⟩ : ∃ l' c, l = l' ++ [c] := ⟨l.dropLast, l.getLast hl, (List.dropLast_concat_getLast hl).symm⟩
      have hcL := cl c (List.mem_append_right _ (List.mem_singleton.mpr rfl))
      have hlt := List.idxOf_lt_length_iff.mpr hcL
      have hk : L[L.idxOf c]? = some c := by rw [List.getElem?_eq_getElem hlt, List.getElem_idxOf hlt]
      have ex : ixs L (l' ++ [c]) = ixs L l' ++ [L.idxOf c] := by unfold ixs; rw [List.map_append]; rfl
      obtain ⟨n1, n2, n3⟩ := num_back (m := L.length) (l := ixs L l') hlt
      have pos : 0 < num L.length (ixs L (l' ++ [c])) 0 := num_pos _ _ (.inr (by rw [ex]; simp))
      rw [ex] at pos ⊢
      generalize num L.length (ixs L l' ++ [L.idxOf c]) 0 = n at pos n1 n2 n3
      rw [decide_eq_true (by omega : ((n : Nat) : Int) > 0)]
      have e1' : ((n : Nat) : Int) - 1 = ((n - 1 : Nat) : Int) := by omega
      refine iteT ⟨fun σ4 H4 => ∃ o, H4 = upd H' p o ∧ o = .lst (((c :: s).reverse.map fun c => mk [c]).map V.str) ∧ σ4 = [some (tx L), some (.int (num L.length (ixs L t) 0 : Nat)), some (.int (t.length : Nat)), some (.ref p), some (.int (num L.length (ixs L l') 0 : Nat))], fun σ4 H4 ⟨o, h4, h5, h6⟩ => ⟨l'.length, by simp, l', c :: s, rfl, by rw [ht, List.append_assoc]; rfl, h6, by rw [h4]; exact Ex.mut a1 fp, by rw [h4, h5, upd_same]⟩, ?_⟩
      refine ⟨_, rfl, _, 1, rfl, rfl, ?_⟩
      refine ⟨_, rfl, .inl ⟨rfl, _, .inl (.inl a2)⟩, _, rfl, _, rfl, _, rfl, mk L, rfl, by rw [mk_len]; exact sz_of (by omega), _, _, rfl, rfl, by rw [mk_len]; omega, mk L, _, c, rfl, rfl, by rw [mk_len]; exact sz_of (by omega), ?_, p, _, _, rfl, rfl, a2, by rw [List.length_map, List.length_map, List.length_reverse]; exact sz_lt (by rw [List.length_append] at llen; omega), ?_⟩
      · have : (((n : Nat) : Int) - 1) % (((mk L).length : Nat) : Int) = ((L.idxOf c : Nat) : Int) := by
          rw [mk_len, e1', ← Int.natCast_emod, n2]
        rw [this]
        exact atI_nat (by rw [mk_list]; exact hk)
      · have small : L.length.log2 < 9000 := by
          have : L.length.log2 < 4 := (Nat.log2_lt (by omega)).mpr (by omega)
          omega
        refine ⟨_, rfl, _, rfl, mk L, rfl, by rw [mk_len]; exact sz_of (by omega), _, _, rfl, rfl, ⟨by rw [mk_len]; omega, by rw [mk_len]; exact small⟩, _, rfl, ?_, ?_⟩
        · rw [List.reverse_cons, List.map_append, List.map_append]
          rfl
        · have : (((n : Nat) : Int) - 1) / (((mk L).length : Nat) : Int) = ((num L.length (ixs L l') 0 : Nat) : Int) := by
            rw [mk_len, e1', ← Int.natCast_ediv, n3]
          exact congrArg (fun z => [some (tx L), some (V.int (num L.length (ixs L t) 0 : Nat)), some (V.int (t.length : Nat)), some (V.ref p), some (V.int z)]) this
end
end K04
set_option Elab.async false
set_option linter.all false
set_option maxRecDepth 100000
set_option maxHeartbeats 4000000
namespace K04
open PySem PySem.Spec PyProof.Rows L2 Evl Bx
open Px
section
variable {P : Program} {w : World} {K : PySem.W.Frag} {mg : Str → Option Value} {base : Heap}
/-! ### texts over an alphabet -/
def over (L t : List Nat) : Bool := t.all fun c => decide (c ∈ L)
def sp_stands (K : PySem.W.Frag) : Sp := fun vs H Q _ => ∃ (L t : List Nat), vs = [tx L, tx t] ∧ Low t ∧ t.length ≤ 1000 ∧ L.length ≤ 1000 ∧ ∀ H', Ex H H' → Q (.bl (over L t)) H'
theorem ok_stands_over (T : Tx K mg) : FnOk P w K mg base CX0 2 T.a_stands_over T.fd_stands_over ["letters", "value"] (sp_stands K) := by
  refine T.F_stands_over.ok sc_stands_over (fun vs H Q E h => ?_) (fun cdv A outer s H vs Q E hr h => ?_)
  · obtain ⟨_, _, rfl, _⟩ := h
    rfl
  · obtain ⟨L, t, rfl, ht, lt, lL, q⟩ := h
    refine ⟨_, (pss_one (ps_ret (pe_and (pe_call (ok_is_text T) (hr.mono (by decide)) (by rfl) T.g_is_text T.F_is_text.kp (b_is_text T) .nil pass0 (pa_cons (pv 1) pa_nil)) (pe_one (pe_callB (cr_all rfl) (by rfl) T.n_all (by decide +kernel) (pa_cons (pe_lc (own := [("sign", 2)]) (g := (gName 2)) (tt := tYes) rfl sc_stands_over.nd (pi_str (pv 1)) (blkOk_by (own := [("sign", 2)]) (N := N_stands_over) (sc := defScope s_stands_over) (by decide +kernel)) (fun _ _ _ _ _ => (pg_name (i := 2) sc_stands_over.nd rfl (by first | exact Or.inl rfl | exact Or.inr rfl))) (fun _ _ _ _ _ => pts_nil) (fun _ _ _ _ _ => (pe_cmpR op_in_sign (pv 2) (pv 0) rfl))) pa_nil)))))), ?_⟩
    refine ⟨_, rfl, t, rfl, ht, true, rfl, iteT ?_⟩
    refine ⟨_, rfl, mk t, rfl, fun D nD => ?_⟩
    refine lc_it (walk_str (z := mk t)) (fun i H' => Ex H H' ∧ H' D = some (.lst (((t.take i).map fun c => decide (c ∈ L)).map V.bl))) ⟨Ex.new nD, upd_same⟩ (fun _ _ _ _ => trivial) (fun i x Ha Hb hi hp y => ?_) (fun Ha hp => ?_)
    · obtain ⟨rfl, c, hc, rfl⟩ := y
      have hc' : t[i]? = some c := by rw [← hc]; simp
      have hit : i < t.length := (List.getElem?_eq_some_iff.mp hc').1
      have et : t.take (i + 1) = t.take i ++ [c] := by rw [List.take_add_one, hc']; rfl
      refine ⟨rfl, ?_⟩
      refine ⟨_, rfl, _, rfl, c, mk L, rfl, rfl, _, hp.2, by rw [List.length_map, List.length_map, List.length_take]; exact sz_lt (by omega), Ex.mut hp.1 nD, ?_⟩
      rw [upd_same, et, List.map_append, List.map_append, mk_list]
      rfl
    · have e0 : (mk t).cps.size = t.length := mk_len t
      obtain ⟨h1, h2⟩ := hp
      rw [e0, List.take_of_length_le (Nat.le_refl _)] at h2
      refine ⟨D, _, rfl, .inl (.inl h2), ?_⟩
      have e : (t.map fun c => decide (c ∈ L)).all id = over L t := by
        unfold over
        rw [List.all_map]
        rfl
      rw [e]
      exact q Ha h1
theorem over_true {L t : List Nat} (h : ∀ c ∈ t, c ∈ L) : over L t = true := by
  unfold over
  rw [List.all_eq_true]
  exact fun c hc => decide_eq_true (h c hc)
def sp_need_over (K : PySem.W.Frag) : Sp := fun vs H Q _ => ∃ (L t : List Nat), vs = [tx L, tx t] ∧ Alph L ∧ (∀ c ∈ t, c ∈ L) ∧ t.length ≤ 1000 ∧ ∀ H', Ex H H' → Q .non H'
theorem ok_need_text_over (T : Tx K mg) : FnOk P w K mg base CX0 3 T.a_need_text_over T.fd_need_text_over ["letters", "text"] (sp_need_over K) := by
  refine T.F_need_text_over.ok sc_need_text_over (fun vs H Q E h => ?_) (fun cdv A outer s H vs Q E hr h => ?_)
  · obtain ⟨_, _, rfl, _⟩ := h
    rfl
  · obtain ⟨L, t, rfl, aL, ct, lt, q⟩ := h
    refine ⟨_, (pss_one (ps_if (pt_not (pt_val (pe_call (ok_stands_over T) (hr.mono (by decide)) (by rfl) T.g_stands_over T.F_stands_over.kp (b_stands_over T) .nil pass0 (pa_cons (pv 0) (pa_cons (pv 1) pa_nil))))) (pss_one ps_never) pss_nil)), ?_⟩
    have l4 := aL.four
    refine ⟨_, rfl, _, rfl, L, t, rfl, fun c hc => aL.low c (ct c hc), lt, by omega, fun H' e => ⟨true, by rw [over_true ct], iteF (q H' e)⟩⟩
theorem ok_text_number (T : Tx K mg) : FnOk P w K mg base CX0 4 T.a_text_number T.fd_text_number ["letters", "text"] (sp_numof K) := by
  refine T.F_text_number.ok sc_text_number (fun vs H Q E h => ?_) (fun cdv A outer s H vs Q E hr h => ?_)
  · obtain ⟨_, _, rfl, _⟩ := h
    rfl
  · obtain ⟨L, t, rfl, aL, ct, lt, q⟩ := h
    refine ⟨_, (pss_cons (ps_expr (pe_call (ok_need_letters T) (hr.mono (by decide)) (by rfl) T.g_need_letters T.F_need_letters.kp (b_need_letters T) .nil pass0 (pa_cons (pv 0) pa_nil))) (pss_cons (ps_expr (pe_call (ok_need_text_over T) (hr.mono (by decide)) (by rfl) T.g_need_text_over T.F_need_text_over.kp (b_need_text_over T) .nil pass0 (pa_cons (pv 0) (pa_cons (pv 1) pa_nil)))) (pss_one (ps_ret (pe_call (ok_number_of_text T) (hr.mono (by decide)) (by rfl) T.g_number_of_text T.F_number_of_text.kp (b_number_of_text T) .nil pass0 (pa_cons (pv 0) (pa_cons (pv 1) pa_nil))))))), ?_⟩
    refine ⟨_, rfl, L, rfl, aL, fun H1 e1 => ?_⟩
    refine ⟨_, rfl, _, rfl, L, t, rfl, aL, ct, by omega, fun H2 e2 => ?_⟩
    exact ⟨_, rfl, _, rfl, L, t, rfl, aL, ct, lt, fun H3 e3 => q H3 (e1.trans (e2.trans e3))⟩
def sp_over (K : PySem.W.Frag) : Sp := fun vs H Q _ => ∃ (L t : List Nat), vs = [tx L, tx t] ∧ Alph L ∧ Low t ∧ t.length ≤ 1000 ∧ ∀ H', Ex H H' → Q (.bl (over L t)) H'
theorem ok_is_over (T : Tx K mg) : FnOk P w K mg base CX0 4 T.a_is_over T.fd_is_over ["letters", "value"] (sp_over K) := by
  refine T.F_is_over.ok sc_is_over (fun vs H Q E h => ?_) (fun cdv A outer s H vs Q E hr h => ?_)
  · obtain ⟨_, _, rfl, _⟩ := h
    rfl
  · obtain ⟨L, t, rfl, aL, ht, lt, q⟩ := h
    refine ⟨_, (pss_cons (ps_expr (pe_call (ok_need_letters T) (hr.mono (by decide)) (by rfl) T.g_need_letters T.F_need_letters.kp (b_need_letters T) .nil pass0 (pa_cons (pv 0) pa_nil))) (pss_one (ps_ret (pe_call (ok_stands_over T) (hr.mono (by decide)) (by rfl) T.g_stands_over T.F_stands_over.kp (b_stands_over T) .nil pass0 (pa_cons (pv 0) (pa_cons (pv 1) pa_nil)))))), ?_⟩
    have l4 := aL.four
    refine ⟨_, rfl, L, rfl, aL, fun H1 e1 => ?_⟩
    exact ⟨_, rfl, _, rfl, L, t, rfl, ht, lt, by omega, fun H2 e2 => q H2 (e1.trans e2)⟩
end
end K04
set_option linter.all false
/-! Lx: all words over some letters, in order, and the rows of their counts -/
namespace Lx
open Mx
/-- all words of n letters over L, in order -/
def wd (L : List Nat) : Nat → List (List Nat)
  | 0 => [[]]
  | n + 1 => (wd L n).flatMap fun u => L.map fun a => u ++ [a]
theorem wd_len (L : List Nat) : ∀ n, (wd L n).length = L.length ^ n
  | 0 => rfl
  | n + 1 => by
    rw [wd, List.length_flatMap]
    have e : (wd L n).map (fun u => (L.map fun a => u ++ [a]).length) = (wd L n).map fun _ => L.length := by
      apply List.map_congr_left
      intro u _
      rw [List.length_map]
    rw [e, List.map_const', List.sum_replicate_nat, wd_len L n, Nat.pow_succ]
theorem flat_at {α β : Type} (f : α → List β) (m : Nat) (hf : ∀ a, (f a).length = m) : ∀ (l : List α) (i j : Nat), j < m → (l.flatMap f)[i * m + j]? = (l[i]?).bind fun a => (f a)[j]?
  | [], i, j, h => by simp
  | x :: l, 0, j, h => by
    rw [List.flatMap_cons, Nat.zero_mul, Nat.zero_add, List.getElem?_append_left (by rw [hf]; exact h)]
    rfl
  | x :: l, i + 1, j, h => by
    rw [List.flatMap_cons, List.getElem?_append_right (by rw [hf, Nat.add_mul]; omega), hf]
    have e : (i + 1) * m + j - m = i * m + j := by rw [Nat.add_mul]; omega
    rw [e, flat_at f m hf l i j h]
    rfl
/-- the word at a place: the one without its last letter, and this letter -/
theorem wd_at (L : List Nat) (n i j : Nat) (h : j < L.length) : (wd L (n + 1))[i * L.length + j]? = ((wd L n)[i]?).bind fun u => (L[j]?).map fun a => u ++ [a] := by
  rw [wd, flat_at _ L.length (fun a => by rw [List.length_map]) _ _ _ h]
  congr 1
  funext u
  rw [List.getElem?_map]
theorem wd_size (L : List Nat) : ∀ (n : Nat), ∀ u ∈ wd L n, u.length = n
  | 0, u, h => by
    rw [wd, List.mem_singleton] at h
    rw [h]
    rfl
  | n + 1, u, h => by
    rw [wd, List.mem_flatMap] at h
    obtain ⟨v, hv, hu⟩ := h
    obtain ⟨a, _, rfl⟩ := List.mem_map.mp hu
    rw [List.length_append, wd_size L n v hv]
    rfl
/-- the level n of the counts in p -/
def lev (L : List Nat) (n : Nat) (p : List Nat) : List Int := (wd L n).map fun u => ((cnt u p : Nat) : Int)
theorem lev_len (L : List Nat) (n : Nat) (p : List Nat) : (lev L n p).length = L.length ^ n := by rw [lev, List.length_map, wd_len]
theorem lev_zero (L p : List Nat) : lev L 0 p = [1] := by simp [lev, wd, cnt_nil]
theorem lev_empty (L : List Nat) (n : Nat) : lev L (n + 1) [] = List.replicate (L.length ^ (n + 1)) 0 := by
  apply List.ext_getElem
  · rw [lev_len, List.length_replicate]
  · intro i h1 h2
    rw [lev_len] at h1
    rw [List.getElem_replicate]
    simp only [lev, List.getElem_map]
    have hm : (wd L (n + 1))[i]'(by rw [wd_len]; exact h1) ∈ wd L (n + 1) := List.getElem_mem _
    rw [cnt_empty _ (fun e => by
      have := wd_size L (n + 1) _ hm
      rw [e] at this
      simp at this)]
    rfl
/-- the level n + 1 behind i numbers of the level n, for the letter at the place k -/
def part (L : List Nat) (n : Nat) (p : List Nat) (c i k : Nat) : List Int := (List.range (L.length ^ (n + 1))).map fun j =>
  if j / L.length < i then ((cnt ((wd L (n + 1)).getD j []) (p ++ [c]) : Nat) : Int) else ((cnt ((wd L (n + 1)).getD j []) p : Nat) : Int)
theorem part_len (L : List Nat) (n : Nat) (p : List Nat) (c i k : Nat) : (part L n p c i k).length = L.length ^ (n + 1) := by simp [part]
theorem lev_range (L : List Nat) (n : Nat) (p : List Nat) : lev L n p = (List.range (L.length ^ n)).map fun j => ((cnt ((wd L n).getD j []) p : Nat) : Int) := by
  apply List.ext_getElem
  · rw [lev_len, List.length_map, List.length_range]
  · intro i h1 h2
    rw [lev_len] at h1
    have hw : i < (wd L n).length := by rw [wd_len]; exact h1
    simp only [lev, List.getElem_map, List.getElem_range]
    rw [List.getD_eq_getElem?_getD, List.getElem?_eq_getElem hw]
    rfl
theorem part_zero (L : List Nat) (n : Nat) (p : List Nat) (c k : Nat) : part L n p c 0 k = lev L (n + 1) p := by
  rw [lev_range, part]
  apply List.map_congr_left
  intro j _
  rw [if_neg (Nat.not_lt_zero _)]
theorem part_all (L : List Nat) (n : Nat) (p : List Nat) (c k : Nat) : part L n p c (L.length ^ n) k = lev L (n + 1) (p ++ [c]) := by
  rw [lev_range, part]
  apply List.map_congr_left
  intro j hj
  have := List.mem_range.mp hj
  rw [if_pos (Nat.div_lt_of_lt_mul (by rw [Nat.mul_comm, ← Nat.pow_succ]; exact this))]
theorem part_at (L : List Nat) (n : Nat) (p : List Nat) (c i k j : Nat) (h : j < L.length ^ (n + 1)) : (part L n p c i k)[j]? =
    some (if j / L.length < i then ((cnt ((wd L (n + 1)).getD j []) (p ++ [c]) : Nat) : Int) else ((cnt ((wd L (n + 1)).getD j []) p : Nat) : Int)) := by
  unfold part
  rw [List.getElem?_map, List.getElem?_range h]
  rfl
theorem wd_get (L : List Nat) (n i j : Nat) (hi : i < L.length ^ n) (hj : j < L.length) : (wd L (n + 1)).getD (i * L.length + j) [] = (wd L n).getD i [] ++ [L.getD j 0] := by
  have hw : i < (wd L n).length := by rw [wd_len]; exact hi
  rw [List.getD_eq_getElem?_getD, wd_at L n i j hj, List.getElem?_eq_getElem hw, List.getElem?_eq_getElem hj, List.getD_eq_getElem?_getD, List.getElem?_eq_getElem hw, List.getD_eq_getElem?_getD, List.getElem?_eq_getElem hj]
  rfl
theorem slot_lt (L : List Nat) (n i k : Nat) (hi : i < L.length ^ n) (hk : k < L.length) : i * L.length + k < L.length ^ (n + 1) := by
  rw [Nat.pow_succ]
  calc i * L.length + k < i * L.length + L.length := by omega
    _ = (i + 1) * L.length := by rw [Nat.add_mul, Nat.one_mul]
    _ ≤ L.length ^ n * L.length := Nat.mul_le_mul_right _ hi
theorem slot_old (L : List Nat) (n : Nat) (p : List Nat) (c i k : Nat) (hi : i < L.length ^ n) (hk : k < L.length) :
    (part L n p c i k)[i * L.length + k]? = some ((cnt ((wd L n).getD i [] ++ [L.getD k 0]) p : Nat) : Int) := by
  rw [part_at _ _ _ _ _ _ _ (slot_lt L n i k hi hk), wd_get L n i k hi hk]
  have e : (i * L.length + k) / L.length = i := by
    rw [Nat.mul_comm, Nat.mul_add_div (by omega), Nat.div_eq_of_lt hk, Nat.add_zero]
  rw [e, if_neg (Nat.lt_irrefl _)]
theorem part_turn (L : List Nat) (nd : L.Nodup) (n : Nat) (p : List Nat) (c i k : Nat) (hi : i < L.length ^ n) (hk : k < L.length) (hc : L.getD k 0 = c) :
    part L n p c (i + 1) k = (part L n p c i k).set (i * L.length + k) (((cnt ((wd L n).getD i [] ++ [L.getD k 0]) p : Nat) : Int) + ((cnt ((wd L n).getD i []) p : Nat) : Int)) := by
  have sl := slot_lt L n i k hi hk
  apply List.ext_getElem?
  intro j
  by_cases hj : j < L.length ^ (n + 1)
  · rw [part_at _ _ _ _ _ _ _ hj]
    have hL : 0 < L.length := by omega
    have dm := Nat.div_add_mod j L.length
    have ml := Nat.mod_lt j hL
    have jd : j / L.length < L.length ^ n := Nat.div_lt_of_lt_mul (by rw [Nat.mul_comm, ← Nat.pow_succ]; exact hj)
    have ej : j = (j / L.length) * L.length + j % L.length := by rw [Nat.mul_comm]; exact dm.symm
    have wj : (wd L (n + 1)).getD j [] = (wd L n).getD (j / L.length) [] ++ [L.getD (j % L.length) 0] := by
      have q := wd_get L n (j / L.length) (j % L.length) jd ml
      rw [← ej] at q
      exact q
    by_cases q : j = i * L.length + k
    · subst q
      rw [List.getElem?_set_self (by rw [part_len]; exact hj)]
      have e : (i * L.length + k) / L.length = i := by
        rw [Nat.mul_comm, Nat.mul_add_div (by omega), Nat.div_eq_of_lt hk, Nat.add_zero]
      rw [if_pos (by rw [e]; omega), wd_get L n i k hi hk, cnt_snoc, if_pos hc, Int.natCast_add]
    · rw [List.getElem?_set_ne (fun z => q z.symm), part_at _ _ _ _ _ _ _ hj]
      by_cases a : j / L.length < i
      · rw [if_pos (by omega), if_pos a]
      · rw [if_neg a]
        by_cases b : j / L.length < i + 1
        · have eq : j / L.length = i := by omega
          have nk : j % L.length ≠ k := fun z => q (by rw [ej, eq, z])
          rw [if_pos b, wj, cnt_snoc, if_neg, Nat.add_zero]
          intro z
          rw [← hc] at z
          apply nk
          have h1 : L[j % L.length]? = L[k]? := by
            rw [List.getD_eq_getElem?_getD, List.getD_eq_getElem?_getD, List.getElem?_eq_getElem ml, List.getElem?_eq_getElem hk] at z
            rw [List.getElem?_eq_getElem ml, List.getElem?_eq_getElem hk]
            exact congrArg some z
          exact (List.getElem?_inj ml nd).mp h1
        · rw [if_neg b]
  · have z1 : (part L n p c (i + 1) k)[j]? = none := List.getElem?_eq_none_iff.mpr (by rw [part_len]; omega)
    rw [z1]
    symm
    exact List.getElem?_eq_none_iff.mpr (by rw [List.length_set, part_len]; omega)
/-- a sign that L has not changes no level -/
theorem cnt_other (p u : List Nat) (c : Nat) (h : c ∉ u) : cnt u (p ++ [c]) = cnt u p := by
  rcases List.eq_nil_or_concat u with rfl | ⟨v, a, rfl⟩
  · rw [cnt_nil, cnt_nil]
  · rw [List.concat_eq_append] at h ⊢
    rw [cnt_snoc, if_neg (fun e => h (by rw [e]; exact List.mem_append_right _ (List.mem_singleton.mpr rfl))), Nat.add_zero]
theorem wd_over (L : List Nat) : ∀ n, ∀ u ∈ wd L n, ∀ a ∈ u, a ∈ L
  | 0, u, h, a, ha => by
    rw [wd, List.mem_singleton] at h
    rw [h] at ha
    exact absurd ha (by simp)
  | n + 1, u, h, a, ha => by
    rw [wd, List.mem_flatMap] at h
    obtain ⟨v, hv, hu⟩ := h
    obtain ⟨b, hb, rfl⟩ := List.mem_map.mp hu
    rcases List.mem_append.mp ha with z | z
    · exact wd_over L n v hv a z
    · rw [List.mem_singleton] at z
      rw [z]
      exact hb
theorem lev_other (L : List Nat) (n : Nat) (p : List Nat) (c : Nat) (h : c ∉ L) : lev L n (p ++ [c]) = lev L n p := by
  unfold lev
  apply List.map_congr_left
  intro u hu
  rw [cnt_other p u c fun z => h (wd_over L n u hu c z)]
/-- all words up to d letters, in the order of texts -/
def upto (L : List Nat) : Nat → List (List Nat)
  | 0 => wd L 0
  | d + 1 => upto L d ++ wd L (d + 1)
def rows (L : List Nat) (d : Nat) (p : List Nat) : List (List Int) := (List.range (d + 1)).map fun n => lev L n p
theorem rows_flat (L : List Nat) (p : List Nat) : ∀ d, (rows L d p).flatten = (upto L d).map fun u => ((cnt u p : Nat) : Int)
  | 0 => by simp [rows, upto, lev]
  | d + 1 => by
    have ih := rows_flat L p d
    unfold rows at ih ⊢
    rw [List.range_succ, List.map_append, List.flatten_append, ih, upto, List.map_append]
    simp [lev]
end Lx
set_option Elab.async false
set_option linter.all false
set_option maxRecDepth 100000
set_option maxHeartbeats 4000000
/-! Rx2: calls by keywords alone; reversed(text); enumerate and zip over texts and tuples -/
namespace Rx
open PySem PySem.Spec PyProof.Rows L2

/-! ### f(k = v, ..) -/
section
variable {X : Cx} {CX : CXT} {k : Nat} {f : Addr} {fd : FuncData} {ps ks : List PySem.Str} {g : List Value → List Value → List Value} {gV : List V → List V → List V} {sp : Sp} {E : XK} {x : PySem.Str} {np pos : Pos} {kws : List Keyword} {tk : TA}
def tCallK0 (sp : Sp) (gV : List V → List V → List V) (E : XK) (tk : TA) : TE := fun σ H Q => tk σ H fun zs H2 => sp (gV [] zs) H2 Q E
theorem pe_callK0 (F : FnOk X.prog X.w X.K X.mg X.base CX k f fd ps sp) (hr : Room k X.A) (hg : Gl X x) (hm : X.mg x = some (.ref f)) (hk : PySem.W.keepIn X.K (.ref f) = true) (hb : KBinds X.K fd ps ks g gV) (hx : Passes CX X E)
    (hkw : PK X kws tk) (hall : (backToKw pos (keywordEach kws X.env)).all (·.1.isSome) = true := by rfl) (hks : (backToKw pos (keywordEach kws X.env)).filterMap (·.1) = ks := by rfl)
    (hdb : (x == ("__debug__" : PySem.Str)) = false := by decide)
    (hpl : ((backTo pos (starEach [] X.env)).any (·.1) || (backToKw pos (keywordEach kws X.env)).any (·.1.isNone)) = false := by rfl) :
    PE X (.Call (.Name x np) [] kws pos) (tCallK0 sp gV E tk) := by
  refine ⟨fun pins s σ H Q I h => ?_⟩
  refine wpAny_Call_Name_kw (ld_glob I hg hm ?_ hdb)
  refine PySem.W.callWith_KW0 (h₀ := X.base) I.ok.mod.kin hk hall (thn (hkw.run pos pins s σ H _ I h) fun ws s2 ⟨zs, H2, I2, rz, q2⟩ => ⟨I2.kIn, ?_⟩) hpl
  rw [hks]
  exact run_fnk (us := []) (vs := []) F hr hb hx I2 .nil rz q2
end

/-! ### reversed(text) -/
theorem norev_str : typeLookup (.type "str") "__reversed__" = pure none := by rw [typeLookup_type, builtinLookup_eq_fast]; kernel_rfl
theorem get_str : typeLookup (.type "str") "__getitem__" = pure (some (.builtin "str.__getitem__")) := by rw [typeLookup_type, builtinLookup_eq_fast]; kernel_rfl
def rsObj (x : PySem.Str) (t : Tok) (i : Int) : Obj := { cls := .type "reversed", data := .fields #[.str x t, rawInt i] }
/-- reversed(x), the next place i -/
def IsRs (h : Heap) (a : Addr) (x : PySem.Str) (t : Tok) (i : Int) : Prop := ∃ o, h.get? a = some o ∧ o.cls = .type "reversed" ∧ o.data = .fields #[.str x t, rawInt i]
theorem IsRs.at {h h' : Heap} {a : Addr} {x : PySem.Str} {t : Tok} {i : Int} (z : IsRs h a x t i) (e : ∀ o, h.get? a = some o → h'.get? a = some o) : IsRs h' a x t i := let ⟨o, ho, r⟩ := z; ⟨o, e _ ho, r⟩
section
variable {prog : Program} {w : World} {A : Around} {E : Value → Shared → Prop} {s : Shared}
theorem IsRs.typeIs {a : Addr} {x : PySem.Str} {t : Tok} {i : Int} (z : IsRs s.heap a x t i) : s.TypeIs (.ref a) "reversed" := let ⟨o, ho, hc, _⟩ := z; ⟨o, ho, hc⟩
theorem code_reversed_str {x : PySem.Str} {t : Tok} {Q₁ : Value → Shared → Prop} (hfit : ¬ (x.length : Int) ≥ 2 ^ 63)
    (h : Q₁ (.ref s.heap.objs.size) { s with heap := s.heap.push (rsObj x t ((x.length : Int) - 1)), toks := s.toks + 1 + 1 }) :
    codeAny (model prog w) A (.call (.builtin "reversed.__new__") ⟨[.type "reversed", .str x t], []⟩) (wants Q₁ E) s := by
  have hT : s.TypeIs (.str x t) "str" := rfl
  refine codeAny_of_tree ?_
  show wpAny _ A.in1 (do checkBuiltinCall "reversed.__new__" ⟨[.type "reversed", .str x t], []⟩; again (.builtin "reversed.__new__" ⟨[.type "reversed", .str x t], []⟩)) _ _ s
  refine wpAny_bind (wpAny_of_eq (F.newCall_reversed_1 _) (wpAny_pure ⟨plainId_quiet F.plain_reversed_new _, codeAny_builtin F.entry_reversed_new ?_⟩))
  rw [Around.under_plainId F.plain_reversed_new _]
  unfold Builtin.«reversed.__new__»
  refine wpAny_bind (wpAny_of_eq (newClass_reversed _) ?_)
  try dsimp only
  refine wpAny_bind (wpAny_of_eq (a := ()) (by first | rfl | kernel_rfl) ?_)
  try dsimp only
  refine wpAny_bind (wpAny_of_eq (a := ()) (by first | rfl | kernel_rfl) ?_)
  try dsimp only
  refine wpAny_bind (wpAny_specialOf hT norev_str ?_)
  try dsimp only
  refine wpAny_bind ?_
  wp_delta
  refine wpAny_bind (wpAny_isInstance (T := "str") (U := "dict") (b := false) hT PySem.F.sub_str_dict ?_)
  try dsimp only
  try rw [if_neg Bool.false_ne_true]
  try dsimp only
  refine wpAny_bind (wpAny_specialOf hT get_str ?_)
  try dsimp only
  try rw [if_pos (by decide +kernel)]
  refine wpAny_pure ?_
  try dsimp only
  try rw [if_neg (by decide)]
  try dsimp only
  refine wpAny_bind (len_str hfit ?_)
  refine wpAny_bind (wpAny_of_eq (a := some ((x.length : Nat) : Int)) rfl ?_)
  try dsimp only
  refine wpAny_bind ?_
  show wpAny _ _ (newObj (.type "reversed") (.fields #[.str x t, rawInt ((x.length : Int) - 1)])) _ _ _
  refine wpAny_newObj_type ?_
  exact wpAny_pure h
theorem call_reversed_str {x : PySem.Str} {t : Tok} {Q : Value → Shared → Prop} (hfit : ¬ (x.length : Int) ≥ 2 ^ 63)
    (h : Q (.ref s.heap.objs.size) { s with heap := s.heap.push (rsObj x t ((x.length : Int) - 1)), toks := s.toks + 1 + 1 }) : wpAny (model prog w) A (call (.type "reversed") [.str x t]) Q E s := by
  refine callType_codes (Q₁ := fun obj s₁ => s₁.TypeIs obj "reversed" ∧ Q obj s₁) RT.called_rt (F.typeCall_reversed_1 _) F.entry_object_init
    (code_reversed_str (A := A.in1) hfit ⟨⟨_, Heap.get?_push_size _ rfl, rfl⟩, h⟩) fun obj s₁ h₁ => ?_
  exact ⟨h₁.1, F.args_object_init_2 obj _, object_init_meets RT.called_rt.init.lookup RT.called_rt.made (by decide) prog w A.in1 _ s₁ ⟨h₁.1, rfl, h₁.2⟩⟩
theorem next_rs_item {it : Addr} {x : PySem.Str} {t : Tok} {i c : Nat} {Q : Option Value → Shared → Prop} (hit : IsRs s.heap it x t (i : Int)) (hx : x.cps[i]? = some c) (hsz : x.cps.size ≤ sizeLine)
    (hQ : ∀ h', IsRs h' it x t ((i : Int) - 1) → Heap.SameBut it s.heap h' → Q (some (.str ⟨#[c]⟩ (s.toks + 1))) { s with heap := h', toks := s.toks + 1 + 1 }) : wpAny (model prog w) A (pyNext (.ref it)) Q E s := by
  obtain ⟨o, ho, hc, hd⟩ := id hit
  have hi : i < x.cps.size := (Array.getElem?_eq_some_iff.mp hx).1
  have hT : s.TypeIs (.str x t) "str" := rfl
  rw [sizeLine_eq] at hsz
  unfold pyNext
  refine wpAny_bind (wpAny_attempt (wpAny_callSpecial?_slot (name := Str.ofString "__next__") hit.typeIs RT.slot_rt_next
    (wpAny_call_entry RT.slot_rt_next hit.typeIs RT.entry_rt_next ?_ (RT.args_rt_next _))))
  unfold Builtin.«reversed.__next__»
  refine wpAny_bind (wpAny_of_eq (a := (Value.ref it, [])) rfl ?_)
  try dsimp only
  refine wpAny_bind (wpAny_field ho hd (x := .str x t) rfl ?_)
  try dsimp only
  refine wpAny_bind (wpAny_field ho hd (x := rawInt (i : Int)) rfl ?_)
  show wpAny _ _ (if (i : Int) < 0 then _ else _) _ _ s
  rw [if_neg (by omega)]
  try dsimp only
  refine wpAny_bind (wpAny_specialOf hT get_str ?_)
  try dsimp only
  try rw [if_neg (by decide)]
  try dsimp only
  refine wpAny_bind (wpAny_mkInt ?_)
  refine wpAny_bind (wpAny_attempt ?_)
  have fin : seqIndex? (i : Int) x.length = some i := seqIndex_of (by omega) (by show ((i : Nat) : Int) < (x.cps.size : Nat); omega)
  refine PyProof.Rows.getItem_str (s := { s with toks := s.toks + 1 }) (c := c) (by
    have e1 : decide ((i : Int) < -(2 ^ 63 : Int)) = false := decide_eq_false (by omega)
    have e2 : decide ((i : Int) ≥ 2 ^ 63) = false := decide_eq_false (by omega)
    rw [e1, e2, Bool.or_false]) (by rw [fin]; exact hx) ?_
  try dsimp only
  refine wpAny_bind (wpAny_field (s := { s with toks := s.toks + 1 + 1 }) ho hd (x := rawInt (i : Int)) rfl ?_)
  try dsimp only
  refine wpAny_bind (wpAny_setField (s := { s with toks := s.toks + 1 + 1 }) ho hd (by simp) ?_)
  first
  | refine wpAny_pure ⟨_, rfl, wpAny_pure (hQ _ ?_ (Heap.SameBut.update ..))⟩
  | refine wpAny_bind (wpAny_pure (wpAny_pure ⟨_, rfl, wpAny_pure (hQ _ ?_ (Heap.SameBut.update ..))⟩))
  exact ⟨_, Heap.get?_update_self _ ho (Obj.isFreed_of_fields (Obj.data_mapFields hd _)), (Obj.cls_mapFields ..).trans hc, by
    rw [Obj.data_mapFields hd]; simp⟩
theorem next_rs_end {it : Addr} {x : PySem.Str} {t : Tok} {Q : Option Value → Shared → Prop} (hh : A.handled = none) (hit : IsRs s.heap it x t (-1))
    (hQ : ∀ h', Heap.ExtBut it s.heap h' → Q none { s with heap := h' }) : wpAny (model prog w) A (pyNext (.ref it)) Q E s := by
  obtain ⟨o, ho, hc, hd⟩ := id hit
  unfold pyNext
  refine wpAny_bind (wpAny_attempt (wpAny_callSpecial?_slot (name := Str.ofString "__next__") hit.typeIs RT.slot_rt_next
    (wpAny_call_entry RT.slot_rt_next hit.typeIs RT.entry_rt_next ?_ (RT.args_rt_next _))))
  unfold Builtin.«reversed.__next__»
  refine wpAny_bind (wpAny_of_eq (a := (Value.ref it, [])) rfl ?_)
  try dsimp only
  refine wpAny_bind (wpAny_field ho hd (x := .str x t) rfl ?_)
  try dsimp only
  refine wpAny_bind (wpAny_field ho hd (x := rawInt (-1)) rfl ?_)
  show wpAny _ _ (if (-1 : Int) < 0 then _ else _) _ _ s
  rw [if_pos (by decide)]
  try dsimp only
  refine wpAny_bind (wpAny_rule ?_)
  refine wpAny_bind ?_
  wp_delta
  refine wpAny_bind (wpAny_setField ho hd (by simp) ?_)
  have ho2 := Heap.get?_update_self (Obj.mapFields (·.setIfInBounds 1 (rawInt (-1)))) ho (Obj.isFreed_of_fields (Obj.data_mapFields hd _))
  refine wpAny_setField (s := { s with heap := s.heap.update it (Obj.mapFields (·.setIfInBounds 1 (rawInt (-1)))) }) ho2 (Obj.data_mapFields hd _) (by simp) ?_
  try dsimp only
  first
  | show wpAny _ _ (newExc (.type "StopIteration") [] >>= _) _ _ _
  | (refine wpAny_bind ?_; show wpAny _ _ (newExc (.type "StopIteration") [] >>= _) _ _ _)
  | (refine wpAny_bind ?_; wp_delta; show wpAny _ _ (newExc (.type "StopIteration") [] >>= _) _ _ _)
  refine wpAny_bind ?_
  simp only [newExc, newTuple]
  refine wpAny_bind (wpAny_newObj_type ?_ (by size_fits))
  refine wpAny_bind (m := firstArgMember _ _) (wpAny_of_eq (a := Value.none) (by first | rfl | (simp only [firstArgMember]; rfl)) ?_)
  refine wpAny_newObj_type ?_ (by size_fits)
  simp only [raiseNew]
  refine wpAny_bind (wpAny_handled ?_)
  first | rw [show A.in1.handled = none from hh] | rw [hh]
  refine wpAny_bind (wpAny_pure (wpAny_throw ?_))
  refine wpAny_bind (wpAny_isInstance (T := "StopIteration") (b := true) ⟨_, Heap.get?_push_size _ rfl, rfl⟩ isSubtype_stop ?_)
  refine wpAny_pure (hQ _ ?_)
  refine ((?_ : Heap.ExtBut it s.heap _).push _).push _
  exact fun b ob hb e => (Heap.get?_update_other _ _ (Ne.symm hb)).trans ((Heap.get?_update_other _ _ (Ne.symm hb)).trans e)
theorem iter_rs {it : Addr} {x : PySem.Str} {t : Tok} {i : Int} {Q : Value → Shared → Prop} (hit : IsRs s.heap it x t i) (h : Q (.ref it) s) : wpAny (model prog w) A (pyIter (.ref it)) Q E s := by
  refine wpAny_pyIter_slot hit.typeIs RT.slot_rt_iter (wpAny_call_entry RT.slot_rt_iter hit.typeIs RT.entry_rt_iter ?_ (RT.args_rt_iter _))
  show wpAny _ _ (ret (.ref it)) _ _ s
  exact wpAny_pure ⟨_, rfl, "reversed", _, hit.typeIs, RT.slot_rt_next.lookup, h⟩
end
/-- a text's letters from its end -/
def ItRs (x : PySem.Str) : It := ⟨fun i _ => i < x.cps.size, fun i H v H' => H' = H ∧ ∃ c, x.cps[x.cps.size - 1 - i]? = some c ∧ v = .str ⟨#[c]⟩, fun i _ => x.cps.size ≤ i⟩
theorem turn_rs {P : Program} {w : World} {K : PySem.W.Frag} {tg : Expr} (it : Addr) (x : PySem.Str) (t : Tok) (hz : x.cps.size ≤ sizeLine) : Turn P w K tg (ItRs x) [it] it (fun i h => i ≤ x.cps.size ∧ IsRs h it x t ((x.cps.size : Int) - 1 - (i : Nat))) where
  mem := by simp
  obj := fun i h st b hb => by
    have e : b = it := by simpa using hb
    subst e
    obtain ⟨_, o, e, c, d⟩ := st
    exact ⟨o, e, fun v z => by rw [d] at z; cases z⟩
  keep := fun i h h' st k => ⟨st.1, st.2.at fun o e => k it (by simp) o e⟩
  item := by
    intro X hP hw hK hc i pins s σ H E I hf st hg
    subst hP hw hK
    have hin : i < x.cps.size := hg
    obtain ⟨f0, f1, f2, f3, f4, f5⟩ := hf it (by simp)
    obtain ⟨_, hit⟩ := st
    have e1 : (x.cps.size : Int) - 1 - ((i : Nat) : Int) = ((x.cps.size - 1 - i : Nat) : Int) := by omega
    rw [e1] at hit
    have hlt : x.cps.size - 1 - i < x.cps.size := by omega
    have hx : x.cps[x.cps.size - 1 - i]? = some (x.cps[x.cps.size - 1 - i]) := Array.getElem?_eq_getElem hlt
    refine next_rs_item hit hx hz fun h' st' sb => ?_
    have e2 : ((x.cps.size - 1 - i : Nat) : Int) - 1 = (x.cps.size : Int) - 1 - ((i + 1 : Nat) : Int) := by omega
    rw [e2] at st'
    have I1 : Inv X pins σ H { s with heap := h', toks := s.toks + 1 + 1 } := I.turned (t' := s.toks + 1 + 1) (fun b o hb e => (sb.2 b hb).trans e) f0 f1 f3 f4 f5
    obtain ⟨o, e, c, d⟩ := id st'
    exact ⟨_, rfl, go_of (s := { s with heap := h', toks := s.toks + 1 + 1 }) e c d (by decide) ⟨.str ⟨#[x.cps[x.cps.size - 1 - i]]⟩, H, I1, ⟨_, rfl⟩, ⟨rfl, _, hx, rfl⟩, ⟨hin, st'⟩, fun b hb => (hf b hb).1⟩⟩
  done := by
    intro X hP hw hK hc i pins s σ H E I hf st hg
    subst hP hw hK
    obtain ⟨f0, f1, f2, f3, f4, f5⟩ := hf it (by simp)
    obtain ⟨hin, hit⟩ := st
    have hge : x.cps.size ≤ i := hg
    have e1 : (x.cps.size : Int) - 1 - ((i : Nat) : Int) = -1 := by omega
    rw [e1] at hit
    exact next_rs_end (I.ok.hd hc) hit fun h' eb => ⟨rfl, I.turned (t' := s.toks) (fun b o hb e => eb b o hb e) f0 f1 f3 f4 f5⟩
  self := fun A i s Q E st h => iter_rs st.2 h
def iRevS (ta : TA) : TI := fun σ H R => ta σ H fun vs H1 => ∃ x : PySem.Str, vs = [.str x] ∧ x.cps.size ≤ sizeLine ∧ R (ItRs x) H1
theorem pi_revS {X : Cx} {tg e : Expr} {ta : TA} {p pos : Pos} (hg : Gl X "reversed") (hm : X.mg "reversed" = none) (ha : PA X [e] ta) (hs : starEach [e] X.env = [(false, eval e X.env)] := by rfl) : PI X tg (.Call (.Name "reversed" p) [e] [] pos) (iRevS ta) := by
  refine ⟨fun pins s σ H R I h => ?_⟩
  refine Call_ (ld_blt I hg hm PyProof.Rows.boot_reversed (PyProof.Rows.callWith_type1 (thn (ha.run pos pins s σ H _ I h) fun us s1 ⟨vs, H1, I1, r1, q1⟩ => ?_) hs rfl))
  obtain ⟨x, e, hz, q⟩ := q1
  subst e
  cases r1 with
  | cons r rr =>
    cases rr
    obtain ⟨t, rfl⟩ := r
    have hl : x.length = x.cps.size := rfl
    have hz' := hz
    rw [sizeLine_eq] at hz'
    have e1 : ((x.length : Nat) : Int) - 1 = (x.cps.size : Int) - 1 - ((0 : Nat) : Int) := by rw [hl]; omega
    have st0 : IsRs (s1.heap.push (rsObj x t ((x.length : Int) - 1))) s1.heap.objs.size x t ((x.length : Int) - 1) := ⟨_, Heap.get?_push_size _ rfl, rfl, rfl⟩
    refine call_reversed_str (by rw [hl]; omega) (iter_rs st0 ?_)
    refine pi_one (tk := s1.toks + 1 + 1) I1 _ (turn_rs _ x t hz) ⟨Nat.zero_le _, ?_⟩ q
    rw [← e1]
    exact st0
/-- the turns -/
theorem for_revS {x : PySem.Str} {g : TG} {tb : TS} {D : Ends} {σ : L2.St} {H : Hp} (Pv : Nat → L2.St → Hp → Prop) (h0 : Pv 0 σ H)
    (hs : ∀ i c σ H, i < x.cps.size → x.cps[x.cps.size - 1 - i]? = some c → Pv i σ H → g (.str ⟨#[c]⟩) σ H fun σ2 H2 => tb { D with nx := Pv (i + 1), ct := Pv (i + 1), bk := D.nx } σ2 H2) (hd : ∀ σ H, Pv x.cps.size σ H → D.nx σ H) :
    ∃ W : Nat → Nat → L2.St → Hp → Prop, (∃ m, W 0 m σ H) ∧ ∀ i m σ H, W i m σ H →
      ((ItRs x).stop i H ∧ D.nx σ H) ∨ ((ItRs x).go i H ∧ ∃ N : L2.St → Hp → Prop, (∀ σ' H', N σ' H' → ∃ m', m' < m ∧ W (i + 1) m' σ' H') ∧ ∀ v H', (ItRs x).yld i H v H' → g v σ H' fun σ2 H2 => tb { D with nx := N, ct := N, bk := D.nx } σ2 H2) := by
  refine ⟨fun i m σ H => m = x.cps.size - i ∧ i ≤ x.cps.size ∧ Pv i σ H, ⟨x.cps.size, rfl, Nat.zero_le _, h0⟩, ?_⟩
  rintro i m σ H ⟨rfl, hi, p⟩
  by_cases hlt : i < x.cps.size
  · refine .inr ⟨hlt, Pv (i + 1), fun σ' H' p' => ⟨x.cps.size - (i + 1), by omega, rfl, hlt, p'⟩, fun v H' y => ?_⟩
    obtain ⟨rfl, c, hc, rfl⟩ := y
    exact hs i c σ _ hlt hc p
  · have e : i = x.cps.size := by omega
    subst e
    exact .inl ⟨Nat.le_refl _, hd σ H p⟩
end Rx
set_option Elab.async false
set_option linter.all false
set_option maxRecDepth 100000
set_option maxHeartbeats 4000000
/-! Rx3: enumerate and zip over texts and tuples -/
namespace Rx
open PySem PySem.Spec PyProof.Rows L2

/-! ### enumerate of whatever begins -/
set_option maxHeartbeats 1000000 in
theorem meets_enumerate_new1 {v : Value} {o : Obj} {H : Heap → Prop} (B : Begins v o H) :
    Meets (Builtin.«enumerate.__new__» ⟨[.type "enumerate", v], []⟩) (fun _ R s => H s.heap ∧
      R (.ok (.ret (.ref (s.heap.push o).objs.size))) { s with heap := (s.heap.push o).push { cls := .type "enumerate", data := .fields #[.none, .bool false, .ref s.heap.objs.size, rawInt 0, .none, .none] } }) :=
  .of_wp fun prog w A R s h => by
    obtain ⟨hp, g, d, tk, os⟩ := s; obtain ⟨h1, h⟩ := h
    have hsub := sub_enumerate
    have q1 : ∀ {A' : Around} {E : Value → Shared → Prop} {Q : Value → Shared → Prop}, Q (.ref hp.objs.size) ⟨hp.push o, g, d, tk, os⟩ → wpAny (model prog w) A' (pyIter v) Q E ⟨hp, g, d, tk, os⟩ :=
      fun q => B.iter prog w _ _ ⟨hp, g, d, tk, os⟩ _ h1 q
    wp_walk using q1
    refine wpAny_stack_any fun st => wpAny_pure ?_
    split
    · rename_i c _ _ _ _ _
      cases (c == Value.type "enumerate")
      · wp_walk using q1
        exact ⟨_, rfl, h⟩
      · wp_walk using q1
        exact ⟨_, rfl, h⟩
    · wp_walk using q1
      exact ⟨_, rfl, h⟩
section
variable {prog : Program} {w : World} {A : Around} {E : Value → Shared → Prop} {s : Shared}
theorem enum_begins1 {v : Value} {o : Obj} {H : Heap → Prop} {Q : Value → Shared → Prop} (B : Begins v o H) (h1 : H s.heap)
    (h : ∀ h', IsEnum h' (s.heap.objs.size + 1) s.heap.objs.size 0 .none → h'.get? s.heap.objs.size = some o → h'.objs.size = s.heap.objs.size + 2 →
      (∀ b o, s.heap.get? b = some o → h'.get? b = some o) → Q (.ref (s.heap.objs.size + 1)) { s with heap := h' }) :
    wpAny (model prog w) A (call (.type "enumerate") [v]) Q E s := by
  refine callType_new F.called_enumerate (by decide) (F.typeCall_enumerate_1 _) (F.newCall_enumerate_1 _) (fun obj => F.args_object_init_2 obj _) F.entry_enumerate_new
    (meets_enumerate_new1 B) ⟨h1, ?_⟩
  have hz : (s.heap.push o).objs.size = s.heap.objs.size + 1 := Heap.size_push ..
  show _ ∧ _
  rw [hz]
  have he : IsEnum ((s.heap.push o).push { cls := .type "enumerate", data := .fields #[.none, .bool false, .ref s.heap.objs.size, rawInt 0, .none, .none] }) (s.heap.objs.size + 1) s.heap.objs.size 0 .none := by
    have := Heap.get?_push_size (s.heap.push o) (o := { cls := .type "enumerate", data := .fields #[.none, .bool false, .ref s.heap.objs.size, rawInt 0, .none, .none] }) rfl
    rw [hz] at this; exact this
  refine ⟨⟨_, he, rfl⟩, h _ he (Heap.get?_push_of_some _ (Heap.get?_push_size _ B.free)) (by rw [Heap.size_push, hz]) fun b o x => Heap.get?_push_of_some _ (Heap.get?_push_of_some _ x)⟩
end

/-! ### sources: what is walked by an iterator it, the cells rest beside it -/
/-- has H xs: what the source holds in H; tn: the iterator's state -/
structure Fed (P : Program) (w : World) (K : PySem.W.Frag) (it : Addr) (rest : List Addr) (has : Hp → List V → Prop) (tn : Nat → Heap → Prop) : Prop where
  obj : ∀ i h, tn i h → ∃ o, h.get? it = some o ∧ ∀ v, o.data ≠ .cell v
  keep : ∀ i h h', tn i h → (∀ o, h.get? it = some o → h'.get? it = some o) → tn i h'
  one : ∀ (X : Cx), X.prog = P → X.w = w → X.K = K → ∀ (pins : List (Addr × Obj)) (s : Shared) (σ : L2.St) (H : Hp) (xs ys : List V), Inv X pins σ H s → has H xs → has H ys → xs = ys
  draw : ∀ (X : Cx), X.prog = P → X.w = w → X.K = K → X.calm = true → ∀ (pins : List (Addr × Obj)) (s : Shared) (σ : L2.St) (H : Hp) (xs : List V), Inv X pins σ H s → has H xs →
    ∃ (Pt : Nat → Value → Prop) (St : Nat → Heap → Prop), Draws P w X.A.in1 it (it :: rest) xs.length Pt St ∧ (∀ i, tn i s.heap → St i s.heap) ∧ (∀ i h, St i h → tn i h) ∧ ∀ i v, Pt i v → ∃ x, xs[i]? = some x ∧ RelV x v
theorem fed_text {P : Program} {w : World} {K : PySem.W.Frag} (it : Addr) (x : PySem.Str) (t : Tok) : Fed P w K it [] (fun _ xs => xs = (Sx.sgs x).map V.str) (fun i h => h.IsStrIter it (strIterType x) x t i) where
  obj := fun i h st => by
    obtain ⟨o, e, c, d⟩ := st
    exact ⟨o, e, fun v z => by rw [d] at z; cases z⟩
  keep := fun i h h' st k => let ⟨o, ho, r⟩ := st; ⟨o, k o ho, r⟩
  one := fun X _ _ _ pins s σ H xs ys _ h1 h2 => by rw [h1, h2]
  draw := by
    intro X hP hw hK hc pins s σ H xs I hh
    subst hP hw hK
    have D := Draws.text (prog := X.prog) (w := X.w) (A := X.A.in1) (I.ok.hd hc) it x t
    have hl : x.cps.size = xs.length := by rw [hh, List.length_map, Sx.sgs, List.length_map, Array.length_toList]
    rw [hl] at D
    refine ⟨_, _, D, fun i z => z, fun i h z => z, fun i v hp => ?_⟩
    obtain ⟨c, u, hc, rfl⟩ := hp
    exact ⟨.str ⟨#[c]⟩, by rw [hh, List.getElem?_map, Sx.sgs, List.getElem?_map, Array.getElem?_toList, hc] <;> rfl, u, rfl⟩
theorem fed_tup {P : Program} {w : World} {K : PySem.W.Frag} (it a : Addr) (hne : a ≠ it) : Fed P w K it [a] (fun H xs => SqT K H a xs) (fun i h => h.IsTupleIter it a i) where
  obj := fun i h st => by
    obtain ⟨o, e, c, d⟩ := st
    exact ⟨o, e, fun v z => by rw [d] at z; cases z⟩
  keep := fun i h h' st k => st.at fun o e => k o e
  one := by
    intro X hP hw hK pins s σ H xs ys I h1 h2
    subst hP hw hK
    exact I.tuple_inj h1 h2
  draw := by
    intro X hP hw hK hc pins s σ H xs I hh
    subst hP hw hK
    obtain ⟨its, rv, p, hz⟩ := I.tuple hh
    have D := Draws.tuple (prog := X.prog) (w := X.w) (A := X.A.in1) (I.ok.hd hc) it a hne its.toArray
    have hl : its.toArray.size = xs.length := by rw [List.size_toArray, rv.length]
    rw [hl] at D
    refine ⟨_, _, D, fun i z => ⟨z, p⟩, fun i h z => z.1, fun i v hp => ?_⟩
    have hp' : its[i]? = some v := by simpa using hp
    have hi : i < xs.length := by rw [rv.length]; exact (List.getElem?_eq_some_iff.mp hp').1
    have hx : xs[i]? = some xs[i] := List.getElem?_eq_getElem hi
    obtain ⟨u, hu, ru⟩ := rv.get hx
    rw [hp'] at hu
    cases hu
    exact ⟨_, hx, ru⟩

/-! ### enumerate -/
def Itf (has : Hp → List V → Prop) : It :=
  ⟨fun i H => ∃ (xs : List V) (x : V), has H xs ∧ xs[i]? = some x, fun i H v H' => ∃ T x, v = .ref T ∧ H T = none ∧ H' = upd H T (.tup [.int (i : Nat), x]) ∧ ∀ xs, has H xs → xs[i]? = some x, fun i H => ∃ xs : List V, has H xs ∧ xs.length = i⟩
theorem turn_enumF {P : Program} {w : World} {K : PySem.W.Frag} {elts : List Expr} {kk : Nat} {tpos : Pos} {has : Hp → List V → Prop} {tn : Nat → Heap → Prop} {rest : List Addr} (e it : Addr) (Fd : Fed P w K it rest has tn) (hne : e ≠ it) (hr : e ∉ rest) :
    Turn P w K (.Tuple elts kk tpos) (Itf has) [e, it] e (fun i h => (∃ old, IsEnum h e it ((i : Nat) : Int) old) ∧ tn i h) where
  mem := by simp
  obj := fun i h st b hb => by
    obtain ⟨⟨old, he⟩, ht⟩ := st
    have e' : b = e ∨ b = it := by simpa using hb
    rcases e' with z | z
    · rw [z]; exact ⟨_, he, fun v q => nomatch q⟩
    · rw [z]; exact Fd.obj i h ht
  keep := fun i h h' st k => let ⟨⟨old, he⟩, ht⟩ := st; ⟨⟨old, k e (by simp) _ he⟩, Fd.keep i h h' ht fun o q => k it (by simp) o q⟩
  item := by
    intro X hP hw hK hc i pins s σ H E I hf st hg
    obtain ⟨⟨old, he⟩, ht⟩ := st
    obtain ⟨xs, x0, hq, hx0⟩ := hg
    obtain ⟨Pt, St, D, d1, d2, d3⟩ := Fd.draw X hP hw hK hc pins s σ H xs I hq
    have hi : i < xs.length := (List.getElem?_eq_some_iff.mp hx0).1
    have hel : e < s.heap.objs.size := Heap.lt_size he
    have hil : it < s.heap.objs.size := by obtain ⟨o, q, _⟩ := Fd.obj i _ ht; exact Heap.lt_size q
    have hef : e ∉ it :: rest := fun z => by
      rcases List.mem_cons.mp z with z | z
      · exact hne z
      · exact hr z
    refine wpAny_pyNext_enum_itemD D he (d1 i ht) hi hne hef fun u h' tk hp ho hit' hT hsz hk => ?_
    obtain ⟨x, hx, ru⟩ := d3 i u hp
    refine ⟨_, rfl, wpAny_letOwnedTupleGo_enum (s := { s with heap := h', toks := tk + 1 }) ho fun h'' he' sb => ?_⟩
    have hT2 : h''.get? s.heap.objs.size = some { cls := .type "tuple", data := .seq #[.int i tk, u] } := (sb.2 _ (Nat.ne_of_gt hel)).trans hT
    have new : ObjOk X.prog X.w (upd H s.heap.objs.size (.tup [.int (i : Nat), x])) h'' s.heap.objs.size (.tup [.int (i : Nat), x]) :=
      ⟨by show 2 ≤ sizeLine; decide, [.int i tk, u], .cons ⟨_, rfl⟩ (.cons ru .nil), ⟨_, hT2, rfl, _, rfl⟩⟩
    have I1 : Inv X pins σ (upd H s.heap.objs.size (.tup [.int (i : Nat), x])) { s with heap := h'', toks := tk + 1 } :=
      I.turnedNew (ch := [e, it]) (fun b ob hb q => (sb.2 b (fun z => hb (by simp [z]))).trans (hk b ob (fun z => hb (by simp [z])) (fun z => hb (by simp [z])) q)) hf (Nat.le_refl _) new
    refine ⟨.ref s.heap.objs.size, _, I1, rfl, ⟨_, x, rfl, I.hok.fresh (Nat.le_refl _), rfl, fun ys hy => by rw [Fd.one X hP hw hK pins s σ H ys xs I hy hq]; exact hx⟩, ⟨⟨u, ?_⟩, Fd.keep _ _ _ (d2 _ _ hit') fun o q => (sb.2 it (Ne.symm hne)).trans q⟩, fun b hb => ?_⟩
    · have e1 : ((i + 1 : Nat) : Int) = (i : Int) + 1 := by omega
      rw [e1]; exact he'
    · have hb' : b < s.heap.objs.size := by
        have e' : b = e ∨ b = it := by simpa using hb
        rcases e' with z | z
        · rw [z]; exact hel
        · rw [z]; exact hil
      rw [upd_ne (Nat.ne_of_lt hb')]
      exact (hf b hb).1
  done := by
    intro X hP hw hK hc i pins s σ H E I hf st hg
    obtain ⟨⟨old, he⟩, ht⟩ := st
    obtain ⟨xs, hq, hx⟩ := hg
    obtain ⟨Pt, St, D, d1, d2, d3⟩ := Fd.draw X hP hw hK hc pins s σ H xs I hq
    obtain ⟨f0, f1, f2, f3, f4, f5⟩ := hf it (by simp)
    exact wpAny_pyNext_enum_endD D he (hx ▸ d1 i ht) fun h' eb => ⟨rfl, I.turned (t' := s.toks) (fun b o hb q => eb b o hb q) f0 f1 f3 f4 f5⟩
  self := fun A i s Q E st h => let ⟨⟨_, he⟩, _⟩ := st; wpAny_pyIter_enum he h
/-- enumerate(x), x a text -/
def iEnumS (ta : TA) : TI := fun σ H R => ta σ H fun vs H1 => ∃ x : PySem.Str, vs = [.str x] ∧ R (Itf fun _ xs => xs = (Sx.sgs x).map V.str) H1
/-- enumerate(x), x a tuple -/
def iEnumT (K : PySem.W.Frag) (ta : TA) : TI := fun σ H R => ta σ H fun vs H1 => ∃ a xs, vs = [.ref a] ∧ SqT K H1 a xs ∧ R (Itf fun H xs => SqT K H a xs) H1
section
variable {X : Cx} {e : Expr} {ta : TA} {p pos tpos : Pos} {elts : List Expr} {kk : Nat}
theorem pi_enumS (hg : Gl X "enumerate") (hm : X.mg "enumerate" = none) (ha : PA X [e] ta) (hs : starEach [e] X.env = [(false, eval e X.env)] := by rfl) :
    PI X (.Tuple elts kk tpos) (.Call (.Name "enumerate" p) [e] [] pos) (iEnumS ta) := by
  refine ⟨fun pins s σ H R I h => ?_⟩
  refine Call_ (ld_blt I hg hm boot_enumerate (PyProof.Rows.callWith_type1 (thn (ha.run pos pins s σ H _ I h) fun us s1 ⟨vs, H1, I1, r1, q1⟩ => ?_) hs rfl))
  obtain ⟨x, ex, q⟩ := q1
  subst ex
  cases r1 with
  | cons r rr =>
    cases rr
    obtain ⟨t, rfl⟩ := r
    refine enum_begins1 (begins_text x t) trivial fun h' he hit hsz hk => wpAny_pyIter_enum he ?_
    have I2 : Inv X pins σ H1 { s1 with heap := h' } := I1.kept (t' := s1.toks) hk
    refine ⟨s1.heap.objs.size + 1, [s1.heap.objs.size + 1, s1.heap.objs.size], _, _, H1, rfl, I2, turn_enumF (s1.heap.objs.size + 1) s1.heap.objs.size (fed_text _ x t) (Nat.succ_ne_self _) (by simp), ⟨⟨.none, he⟩, ⟨_, hit, rfl, rfl⟩⟩, fun b hb => ?_, q⟩
    have e' : b = s1.heap.objs.size + 1 ∨ b = s1.heap.objs.size := by simpa using hb
    have hle : s1.heap.objs.size ≤ b := by
      rcases e' with z | z
      · rw [z]; exact Nat.le_add_right _ _
      · rw [z]; exact Nat.le_refl _
    exact I1.fpOk hle (I1.hok.fresh hle)
theorem pi_enumT (hg : Gl X "enumerate") (hm : X.mg "enumerate" = none) (ha : PA X [e] ta) (hs : starEach [e] X.env = [(false, eval e X.env)] := by rfl) :
    PI X (.Tuple elts kk tpos) (.Call (.Name "enumerate" p) [e] [] pos) (iEnumT X.K ta) := by
  refine ⟨fun pins s σ H R I h => ?_⟩
  refine Call_ (ld_blt I hg hm boot_enumerate (PyProof.Rows.callWith_type1 (thn (ha.run pos pins s σ H _ I h) fun us s1 ⟨vs, H1, I1, r1, q1⟩ => ?_) hs rfl))
  obtain ⟨a, xs, ex, hq, q⟩ := q1
  subst ex
  cases r1 with
  | cons r rr =>
    cases rr
    cases r
    obtain ⟨its, rv, p1, hz⟩ := I1.tuple hq
    have hlt : a < s1.heap.objs.size := by obtain ⟨o, ho, _⟩ := id p1; exact Heap.lt_size ho
    refine enum_begins1 (begins_tuple a its.toArray) p1 fun h' he hit hsz hk => wpAny_pyIter_enum he ?_
    have I2 : Inv X pins σ H1 { s1 with heap := h' } := I1.kept (t' := s1.toks) hk
    refine ⟨s1.heap.objs.size + 1, [s1.heap.objs.size + 1, s1.heap.objs.size], _, _, H1, rfl, I2, turn_enumF (s1.heap.objs.size + 1) s1.heap.objs.size (fed_tup _ a (Nat.ne_of_lt hlt)) (Nat.succ_ne_self _) (by
      simp only [List.mem_singleton]
      exact Nat.ne_of_gt (Nat.lt_succ_of_lt hlt)), ⟨⟨.none, he⟩, ⟨_, hit, rfl, rfl⟩⟩, fun b hb => ?_, q⟩
    have e' : b = s1.heap.objs.size + 1 ∨ b = s1.heap.objs.size := by simpa using hb
    have hle : s1.heap.objs.size ≤ b := by
      rcases e' with z | z
      · rw [z]; exact Nat.le_add_right _ _
      · rw [z]; exact Nat.le_refl _
    exact I1.fpOk hle (I1.hok.fresh hle)
end

/-! ### zip -/
def Itzf (has1 has2 : Hp → List V → Prop) : It :=
  ⟨fun i H => ∃ (xs ys : List V) (x y : V), has1 H xs ∧ has2 H ys ∧ xs[i]? = some x ∧ ys[i]? = some y,
    fun i H v H' => ∃ T x y, v = .ref T ∧ H T = none ∧ H' = upd H T (.tup [x, y]) ∧ (∀ xs, has1 H xs → xs[i]? = some x) ∧ ∀ ys, has2 H ys → ys[i]? = some y,
    fun i H => ∃ xs ys : List V, has1 H xs ∧ has2 H ys ∧ i ≤ xs.length ∧ i ≤ ys.length ∧ (i = xs.length ∨ i = ys.length)⟩
theorem turn_zipF {P : Program} {w : World} {K : PySem.W.Frag} {elts : List Expr} {kk : Nat} {tpos : Pos} {has1 has2 : Hp → List V → Prop} {tn1 tn2 : Nat → Heap → Prop} {rest1 rest2 : List Addr} {z TI TO i1 i2 : Addr} (F1 : Fed P w K i1 rest1 has1 tn1) (F2 : Fed P w K i2 rest2 has2 tn2) (S : ZipSep2 z TI TO i1 i2 (i1 :: rest1) (i2 :: rest2)) :
    Turn P w K (.Tuple elts kk tpos) (Itzf has1 has2) [z, TI, TO, i1, i2] z (fun i h => IsZip h z TI TO .none ∧ IsTupOf2 h TI (.ref i1) (.ref i2) ∧ (∃ x y, IsTupOf2 h TO x y) ∧ tn1 i h ∧ tn2 i h) where
  mem := by simp
  obj := fun i h st c hc => by
    obtain ⟨hz, hTI, ⟨x, y, hTO⟩, h1, h2⟩ := st
    have e' : c = z ∨ c = TI ∨ c = TO ∨ c = i1 ∨ c = i2 := by simpa using hc
    rcases e' with q | q | q | q | q
    · rw [q]; exact ⟨_, hz, fun v q => nomatch q⟩
    · rw [q]; exact ⟨_, hTI, fun v q => nomatch q⟩
    · rw [q]; exact ⟨_, hTO, fun v q => nomatch q⟩
    · rw [q]; exact F1.obj i h h1
    · rw [q]; exact F2.obj i h h2
  keep := fun i h h' st k => by
    obtain ⟨hz, hTI, ⟨x, y, hTO⟩, h1, h2⟩ := st
    exact ⟨k z (by simp) _ hz, k TI (by simp) _ hTI, ⟨x, y, k TO (by simp) _ hTO⟩, F1.keep i h h' h1 fun o q => k i1 (by simp) o q, F2.keep i h h' h2 fun o q => k i2 (by simp) o q⟩
  item := by
    intro X hP hw hK hc i pins s σ H E I hf st hg
    obtain ⟨hz, hTI, ⟨x0, y0, hTO⟩, h1, h2⟩ := st
    obtain ⟨xs, ys, xa, ya, hqx, hqy, hxa, hya⟩ := hg
    obtain ⟨Pt1, St1, D1, a1, a2, a3⟩ := F1.draw X hP hw hK hc pins s σ H xs I hqx
    obtain ⟨Pt2, St2, D2, b1, b2, b3⟩ := F2.draw X hP hw hK hc pins s σ H ys I hqy
    have hzl : z < s.heap.objs.size := Heap.lt_size hz
    have g1 : i1 < s.heap.objs.size := by obtain ⟨o, q, _⟩ := F1.obj i _ h1; exact Heap.lt_size q
    have g2 : i2 < s.heap.objs.size := by obtain ⟨o, q, _⟩ := F2.obj i _ h2; exact Heap.lt_size q
    refine wpAny_pyNext_zipD2_item S D1 D2 hz hTI hTO (a1 i h1) (b1 i h2) (List.getElem?_eq_some_iff.mp hxa).1 (List.getElem?_eq_some_iff.mp hya).1 fun u u2 h' tk hp1 hp2 z' TO' h1' h2' hT hsz hk => ?_
    obtain ⟨x, hx, ru⟩ := a3 i u hp1
    obtain ⟨y, hy, ru2⟩ := b3 i u2 hp2
    refine ⟨_, rfl, wpAny_letOwnedTupleGo_zip (s := { s with heap := h', toks := tk }) z' fun h'' z'' sb => ?_⟩
    have hT2 : h''.get? s.heap.objs.size = some { cls := .type "tuple", data := .seq #[u, u2] } := (sb.2 _ (Nat.ne_of_gt hzl)).trans hT
    have new : ObjOk X.prog X.w (upd H s.heap.objs.size (.tup [x, y])) h'' s.heap.objs.size (.tup [x, y]) :=
      ⟨by show 2 ≤ sizeLine; decide, [u, u2], .cons ru (.cons ru2 .nil), ⟨_, hT2, rfl, _, rfl⟩⟩
    have I1 : Inv X pins σ (upd H s.heap.objs.size (.tup [x, y])) { s with heap := h'', toks := tk } :=
      I.turnedNew (t' := tk) (ch := [z, TI, TO, i1, i2]) (fun c o hb q => (sb.2 c (fun q' => hb (by simp [q']))).trans (hk c o (fun q' => hb (by simp [q'])) (fun q' => hb (by simp [q'])) (fun q' => hb (by simp [q'])) (fun q' => hb (by simp [q'])) q)) hf (Nat.le_refl _) new
    refine ⟨.ref s.heap.objs.size, _, I1, rfl, ⟨_, x, y, rfl, I.hok.fresh (Nat.le_refl _), rfl, fun l hl => by rw [F1.one X hP hw hK pins s σ H l xs I hl hqx]; exact hx, fun l hl => by rw [F2.one X hP hw hK pins s σ H l ys I hl hqy]; exact hy⟩, ⟨z'', ?_, ⟨u, u2, ?_⟩, ?_, ?_⟩, fun c hcm => ?_⟩
    · exact (sb.2 _ S.TIz).trans (hk _ _ S.TIz S.TITO S.TIi1 S.TIi2 hTI)
    · exact (sb.2 _ S.TOz).trans TO'
    · exact F1.keep _ _ _ (a2 _ _ h1') fun o q => (sb.2 _ (Ne.symm S.zi1)).trans q
    · exact F2.keep _ _ _ (b2 _ _ h2') fun o q => (sb.2 _ (Ne.symm S.zi2)).trans q
    · have hlt : c < s.heap.objs.size := by
        have e' : c = z ∨ c = TI ∨ c = TO ∨ c = i1 ∨ c = i2 := by simpa using hcm
        rcases e' with q | q | q | q | q
        · rw [q]; exact hzl
        · rw [q]; exact Heap.lt_size hTI
        · rw [q]; exact Heap.lt_size hTO
        · rw [q]; exact g1
        · rw [q]; exact g2
      rw [upd_ne (Nat.ne_of_lt hlt)]
      exact (hf c hcm).1
  done := by
    intro X hP hw hK hc i pins s σ H E I hf st hg
    obtain ⟨hz, hTI, ⟨x0, y0, hTO⟩, h1, h2⟩ := st
    obtain ⟨xs, ys, hqx, hqy, l1, l2, hend⟩ := hg
    obtain ⟨Pt1, St1, D1, a1, a2, a3⟩ := F1.draw X hP hw hK hc pins s σ H xs I hqx
    obtain ⟨Pt2, St2, D2, b1, b2, b3⟩ := F2.draw X hP hw hK hc pins s σ H ys I hqy
    exact wpAny_pyNext_zipD2_end S D1 D2 hz hTI hTO (a1 i h1) (b1 i h2) l1 l2 hend fun h' tk hk => ⟨rfl, I.turnedL (t' := tk) (ch := [z, TI, TO, i1, i2]) (fun c o hb q =>
      hk c o (fun q' => hb (by simp [q'])) (fun q' => hb (by simp [q'])) (fun q' => hb (by simp [q'])) (fun q' => hb (by simp [q'])) q) hf⟩
  self := fun A i s Q E st h => wpAny_pyIter_zip st.1 h
/-- zip(x, t), x a text, t a tuple -/
def iZipST (K : PySem.W.Frag) (ta : TA) : TI := fun σ H R => ta σ H fun vs H1 => ∃ (x : PySem.Str) (a : Addr) (ys : List V), vs = [.str x, .ref a] ∧ SqT K H1 a ys ∧ R (Itzf (fun _ xs => xs = (Sx.sgs x).map V.str) fun H xs => SqT K H a xs) H1
theorem pi_zipST {X : Cx} {e e2 : Expr} {ta : TA} {p pos tpos : Pos} {elts : List Expr} {kk : Nat} (hg : Gl X "zip") (hm : X.mg "zip" = none) (ha : PA X [e, e2] ta)
    (hs : starEach [e, e2] X.env = (false, eval e X.env) :: starEach [e2] X.env := by rfl) (hpl : (backTo pos (starEach [e2] X.env)).any (·.1) = false := by rfl) :
    PI X (.Tuple elts kk tpos) (.Call (.Name "zip" p) [e, e2] [] pos) (iZipST X.K ta) := by
  refine ⟨fun pins s σ H R I h => ?_⟩
  refine Call_ (ld_blt I hg hm PyProof.Rows.boot_zip (PyProof.Rows.callWith_type1 (thn (ha.run pos pins s σ H _ I h) fun us s1 ⟨vs, H1, I1, r1, q1⟩ => ?_) hs hpl))
  obtain ⟨x, b, ys, ex, hqy, q⟩ := q1
  subst ex
  cases r1 with
  | cons r rr =>
    cases rr with
    | cons r' rr =>
      cases rr
      obtain ⟨t, rfl⟩ := r
      cases r'
      obtain ⟨its2, rv2, p2, _⟩ := I1.tuple hqy
      have lb : b < s1.heap.objs.size := by obtain ⟨o, ho, _⟩ := id p2; exact Heap.lt_size ho
      refine zip_begins2 (begins_text x t) (begins_tuple b its2.toArray) trivial p2 fun h' hz hTI hTO h1 h2 hsz hk => wpAny_pyIter_zip hz ?_
      have I2 : Inv X pins σ H1 { s1 with heap := h' } := I1.kept (t' := s1.toks) hk
      refine ⟨s1.heap.objs.size + 4, [s1.heap.objs.size + 4, s1.heap.objs.size + 2, s1.heap.objs.size + 3, s1.heap.objs.size, s1.heap.objs.size + 1], _, _, H1, rfl, I2,
        turn_zipF (fed_text _ x t) (fed_tup _ b (Nat.ne_of_lt (Nat.lt_succ_of_lt lb))) (zip_sep2 (fp1 := []) (fp2 := [b]) (by simp) (by intro c hc; rw [List.mem_singleton.mp hc]; exact lb)), ⟨hz, hTI, ⟨_, _, hTO⟩, ⟨_, h1, rfl, rfl⟩, ⟨_, h2, rfl, rfl⟩⟩, fun c hcm => ?_, q⟩
      have e' : c = s1.heap.objs.size + 4 ∨ c = s1.heap.objs.size + 2 ∨ c = s1.heap.objs.size + 3 ∨ c = s1.heap.objs.size ∨ c = s1.heap.objs.size + 1 := by simpa using hcm
      have hle : s1.heap.objs.size ≤ c := by
        rcases e' with z | z | z | z | z
        · rw [z]; exact Nat.le_add_right _ _
        · rw [z]; exact Nat.le_add_right _ _
        · rw [z]; exact Nat.le_add_right _ _
        · rw [z]; exact Nat.le_refl _
        · rw [z]; exact Nat.le_add_right _ _
      exact I1.fpOk hle (I1.hok.fresh hle)
end Rx
set_option Elab.async false
set_option linter.all false
set_option maxRecDepth 100000
set_option maxHeartbeats 4000000
/-! Rx4: loops over enumerate and zip -/
namespace Rx
open PySem PySem.Spec PyProof.Rows L2 Evl Bx
theorem for_enumF {has : Hp → List V → Prop} {xs : List V} {g : TG} {tb : TS} {D : Ends} {σ : L2.St} {H : Hp} (Pv : Nat → L2.St → Hp → Prop) (h0 : Pv 0 σ H) (hq : ∀ i σ H, Pv i σ H → has H xs)
    (hs : ∀ (i : Nat) (x : V) (T : Addr) (σ : L2.St) (H : Hp), xs[i]? = some x → Pv i σ H → H T = none → g (.ref T) σ (upd H T (.tup [.int (i : Nat), x])) fun σ2 H2 => tb { D with nx := Pv (i + 1), ct := Pv (i + 1), bk := D.nx } σ2 H2) (hd : ∀ σ H, Pv xs.length σ H → D.nx σ H) :
    ∃ W : Nat → Nat → L2.St → Hp → Prop, (∃ m, W 0 m σ H) ∧ ∀ i m σ H, W i m σ H →
      ((Itf has).stop i H ∧ D.nx σ H) ∨ ((Itf has).go i H ∧ ∃ N : L2.St → Hp → Prop, (∀ σ' H', N σ' H' → ∃ m', m' < m ∧ W (i + 1) m' σ' H') ∧ ∀ v H', (Itf has).yld i H v H' → g v σ H' fun σ2 H2 => tb { D with nx := N, ct := N, bk := D.nx } σ2 H2) := by
  refine ⟨fun i m σ H => m = xs.length - i ∧ i ≤ xs.length ∧ Pv i σ H, ⟨xs.length, rfl, Nat.zero_le _, h0⟩, ?_⟩
  rintro i m σ H ⟨rfl, hi, p⟩
  have qx := hq i σ H p
  by_cases hlt : i < xs.length
  · have hx : xs[i]? = some xs[i] := List.getElem?_eq_getElem hlt
    refine .inr ⟨⟨xs, _, qx, hx⟩, Pv (i + 1), fun σ' H' p' => ⟨xs.length - (i + 1), by omega, rfl, hlt, p'⟩, fun v H' y => ?_⟩
    obtain ⟨T, x', rfl, hT, rfl, f1⟩ := y
    exact hs i x' T σ H (f1 xs qx) p hT
  · have e : i = xs.length := by omega
    subst e
    exact .inl ⟨⟨xs, qx, rfl⟩, hd σ H p⟩
theorem for_zipF {has1 has2 : Hp → List V → Prop} {xs ys : List V} {g : TG} {tb : TS} {D : Ends} {σ : L2.St} {H : Hp} (hl : xs.length = ys.length) (Pv : Nat → L2.St → Hp → Prop) (h0 : Pv 0 σ H) (hq : ∀ i σ H, Pv i σ H → has1 H xs ∧ has2 H ys)
    (hs : ∀ (i : Nat) (x y : V) (T : Addr) (σ : L2.St) (H : Hp), xs[i]? = some x → ys[i]? = some y → Pv i σ H → H T = none → g (.ref T) σ (upd H T (.tup [x, y])) fun σ2 H2 => tb { D with nx := Pv (i + 1), ct := Pv (i + 1), bk := D.nx } σ2 H2) (hd : ∀ σ H, Pv xs.length σ H → D.nx σ H) :
    ∃ W : Nat → Nat → L2.St → Hp → Prop, (∃ m, W 0 m σ H) ∧ ∀ i m σ H, W i m σ H →
      ((Itzf has1 has2).stop i H ∧ D.nx σ H) ∨ ((Itzf has1 has2).go i H ∧ ∃ N : L2.St → Hp → Prop, (∀ σ' H', N σ' H' → ∃ m', m' < m ∧ W (i + 1) m' σ' H') ∧ ∀ v H', (Itzf has1 has2).yld i H v H' → g v σ H' fun σ2 H2 => tb { D with nx := N, ct := N, bk := D.nx } σ2 H2) := by
  refine ⟨fun i m σ H => m = xs.length - i ∧ i ≤ xs.length ∧ Pv i σ H, ⟨xs.length, rfl, Nat.zero_le _, h0⟩, ?_⟩
  rintro i m σ H ⟨rfl, hi, p⟩
  obtain ⟨qx, qy⟩ := hq i σ H p
  by_cases hlt : i < xs.length
  · have hx : xs[i]? = some xs[i] := List.getElem?_eq_getElem hlt
    have hlt2 : i < ys.length := by omega
    have hy : ys[i]? = some ys[i] := List.getElem?_eq_getElem hlt2
    refine .inr ⟨⟨xs, ys, _, _, qx, qy, hx, hy⟩, Pv (i + 1), fun σ' H' p' => ⟨xs.length - (i + 1), by omega, rfl, hlt, p'⟩, fun v H' y => ?_⟩
    obtain ⟨T, x', y', rfl, hT, rfl, f1, f2⟩ := y
    exact hs i x' y' T σ H (f1 xs qx) (f2 ys qy) p hT
  · have e : i = xs.length := by omega
    subst e
    exact .inl ⟨⟨xs, ys, qx, qy, Nat.le_refl _, by omega, .inl rfl⟩, hd σ H p⟩
/-- for i, c in enumerate(a text): the pair's two names in the slots j and k -/
theorem forEnumS {K : PySem.W.Frag} {σ : L2.St} {H : Hp} {D : Ends} {tu : TS} {ta : TA} {j k : Nat} {l : List Nat} (h : EvA ta σ H [tx l]) (Pv : Nat → L2.St → Hp → Prop) (h0 : ∀ H1, Ex H H1 → Pv 0 σ H1)
    (hm : ∀ i σ' H' H2, Ex H' H2 → Pv i σ' H' → Pv i σ' H2)
    (hs : ∀ i c σ' H', l[i]? = some c → Pv i σ' H' → tu { D with nx := Pv (i + 1), ct := Pv (i + 1), bk := D.nx } ((σ'.set j (some (.int (i : Nat)))).set k (some (tx [c]))) H')
    (hd : ∀ σ' H', Pv l.length σ' H' → D.nx σ' H') : tFor (iEnumS ta) (gTup K 2 (gCons (gName j) (gCons (gName k) gNil))) tu D σ H :=
  h H (Ex.refl H) _ fun H1 e => ⟨mk l, rfl, by
    have hl : (l.map fun c => tx [c]) = (Sx.sgs (mk l)).map V.str := by rw [sgs_mk, List.map_map] <;> rfl
    have hz : ((Sx.sgs (mk l)).map V.str).length = l.length := by rw [← hl, List.length_map]
    refine for_enumF (xs := (Sx.sgs (mk l)).map V.str) Pv (h0 H1 e) (fun _ _ _ _ => rfl) (fun i x T σ' H' hx p hT => ?_) (fun σ' H' p => hd σ' H' (by rw [hz] at p; exact p))
    rw [← hl, List.getElem?_map] at hx
    cases hc : l[i]? with
    | none => rw [hc] at hx; cases hx
    | some c =>
      rw [hc] at hx
      obtain rfl : tx [c] = x := Option.some.inj hx
      exact ⟨T, _, rfl, .inl (.inl upd_same), rfl, _, _, rfl, _, _, rfl, rfl, hs i c σ' _ hc (hm i σ' H' _ (Ex.new hT) p)⟩⟩
/-- for i, q in enumerate(a tuple of numbers) -/
theorem forEnumT {K : PySem.W.Frag} {σ : L2.St} {H : Hp} {D : Ends} {tu : TS} {ta : TA} {j k : Nat} {a : Addr} {l : List Nat} (h : EvA ta σ H [.ref a]) (ht : H a = some (.tup (l.map fun q => V.int (q : Nat)))) (Pv : Nat → L2.St → Hp → Prop) (h0 : ∀ H1, Ex H H1 → Pv 0 σ H1)
    (hq : ∀ i σ' H', Pv i σ' H' → Ex H H') (hm : ∀ i σ' H' H2, Ex H' H2 → Pv i σ' H' → Pv i σ' H2)
    (hs : ∀ i q σ' H', l[i]? = some q → Pv i σ' H' → tu { D with nx := Pv (i + 1), ct := Pv (i + 1), bk := D.nx } ((σ'.set j (some (.int (i : Nat)))).set k (some (.int (q : Nat)))) H')
    (hd : ∀ σ' H', Pv l.length σ' H' → D.nx σ' H') : tFor (iEnumT K ta) (gTup K 2 (gCons (gName j) (gCons (gName k) gNil))) tu D σ H :=
  h H (Ex.refl H) _ fun H1 e => ⟨a, _, rfl, .inl (.inl (e _ _ ht)), by
    refine for_enumF (xs := l.map fun q => V.int (q : Nat)) Pv (h0 H1 e) (fun i σ' H' p => .inl (.inl (hq i σ' H' p _ _ ht))) (fun i x T σ' H' hx p hT => ?_) (fun σ' H' p => hd σ' H' (by rw [List.length_map] at p; exact p))
    rw [List.getElem?_map] at hx
    cases hc : l[i]? with
    | none => rw [hc] at hx; cases hx
    | some c =>
      rw [hc] at hx
      obtain rfl : V.int (c : Nat) = x := Option.some.inj hx
      exact ⟨T, _, rfl, .inl (.inl upd_same), rfl, _, _, rfl, _, _, rfl, rfl, hs i c σ' _ hc (hm i σ' H' _ (Ex.new hT) p)⟩⟩
/-- for c, q in zip(a text, a tuple of numbers) -/
theorem forZipST {K : PySem.W.Frag} {σ : L2.St} {H : Hp} {D : Ends} {tu : TS} {ta : TA} {j k : Nat} {a : Addr} {u l : List Nat} (h : EvA ta σ H [tx u, .ref a]) (ht : H a = some (.tup (l.map fun q => V.int (q : Nat)))) (hl : u.length = l.length) (Pv : Nat → L2.St → Hp → Prop) (h0 : ∀ H1, Ex H H1 → Pv 0 σ H1)
    (hq : ∀ i σ' H', Pv i σ' H' → Ex H H') (hm : ∀ i σ' H' H2, Ex H' H2 → Pv i σ' H' → Pv i σ' H2)
    (hs : ∀ i c q σ' H', u[i]? = some c → l[i]? = some q → Pv i σ' H' → tu { D with nx := Pv (i + 1), ct := Pv (i + 1), bk := D.nx } ((σ'.set j (some (tx [c]))).set k (some (.int (q : Nat)))) H')
    (hd : ∀ σ' H', Pv u.length σ' H' → D.nx σ' H') : tFor (iZipST K ta) (gTup K 2 (gCons (gName j) (gCons (gName k) gNil))) tu D σ H :=
  h H (Ex.refl H) _ fun H1 e => ⟨mk u, a, _, rfl, .inl (.inl (e _ _ ht)), by
    have hu : (u.map fun c => tx [c]) = (Sx.sgs (mk u)).map V.str := by rw [sgs_mk, List.map_map] <;> rfl
    have hz : ((Sx.sgs (mk u)).map V.str).length = u.length := by rw [← hu, List.length_map]
    refine for_zipF (xs := (Sx.sgs (mk u)).map V.str) (ys := l.map fun q => V.int (q : Nat)) (by rw [hz, List.length_map, hl]) Pv (h0 H1 e) (fun i σ' H' p => ⟨rfl, .inl (.inl (hq i σ' H' p _ _ ht))⟩) (fun i x y T σ' H' hx hy p hT => ?_) (fun σ' H' p => hd σ' H' (by rw [hz] at p; exact p))
    rw [← hu, List.getElem?_map] at hx
    rw [List.getElem?_map] at hy
    cases hc : u[i]? with
    | none => rw [hc] at hx; cases hx
    | some c =>
      cases hd : l[i]? with
      | none => rw [hd] at hy; cases hy
      | some q =>
        rw [hc] at hx
        rw [hd] at hy
        obtain rfl : tx [c] = x := Option.some.inj hx
        obtain rfl : V.int (q : Nat) = y := Option.some.inj hy
        exact ⟨T, _, rfl, .inl (.inl upd_same), rfl, _, _, rfl, _, _, rfl, rfl, hs i c q σ' _ hc hd (hm i σ' H' _ (Ex.new hT) p)⟩⟩
theorem ne_same {x y : V} (h : x = y) : V.bl (!decide (x = y)) = V.bl false := by rw [decide_eq_true h]; rfl
theorem eq_same {x y : V} (h : x = y) : V.bl (decide (x = y)) = V.bl true := by rw [decide_eq_true h]
end Rx
set_option Elab.async false
set_option linter.all false
set_option maxRecDepth 100000
set_option maxHeartbeats 4000000
/-! Rx5: sorted of a list of tuples of ints that ascends -/
namespace PySem.W
open PySem PySem.Calls PyProof.Rows
/-- one empty tuple can be sorted -/
theorem SortsAt.lone {prog : Program} {w : World} {A : Around} {s : Shared} {v : Value} (e : ∃ as, Reads s.heap v (.tuple []) as) (hu : A.units + 2 < cLine) : SortsAt prog w A s (dataKind s.heap [.tuple []]) [v] := by
  have hal : AllAlike [PyData.tuple []] := by
    intro d hd d' hd'
    rw [List.mem_singleton.mp hd, List.mem_singleton.mp hd']
    simp [alike, alikeAll]
  refine ⟨fun x hx => ?_, tuples' true, ?_, fun h2 => absurd h2 (by simp)⟩
  · obtain ⟨as, r⟩ := e
    rw [List.mem_singleton.mp hx]
    exact ⟨_, dataKind_some hal (List.mem_singleton.mpr rfl) r⟩
  · intro E x y a b Q ha hb hq
    obtain ⟨d, as, hd, ra, rfl⟩ := dataKind_inv ha
    obtain ⟨d', as', hd', rb, rfl⟩ := dataKind_inv hb
    have hdd := hal d hd d' hd'
    have e1 := List.mem_singleton.mp hd
    have e2 := List.mem_singleton.mp hd'
    subst e1 e2
    have hq' : Q (dataLt (.tuple []) (.tuple [])) s := hq
    rw [dataLt_tuple] at hq'
    cases ra with
    | @tuple l o xs n _ _ h1 h2 h3 h4 =>
      cases rb with
      | @tuple l' o' xs' n' _ _ k1 k2 k3 k4 =>
        have n1 : xs.size = ([] : List PyData).length := by simpa using SeqAt.ReadsAll.length _ _ _ h4
        have n2 : xs'.size = ([] : List PyData).length := by simpa using SeqAt.ReadsAll.length _ _ _ k4
        refine kat_lt h1 h3 k1 k3 (katLex_alike [] [] 0 _ _ _ _ h4 k4 (by simp [alikeAll]) (by
          have z : PyData.depthAll [] = 0 := by simp [PyData.depthAll]
          rw [z]
          omega) (fun hb _ x r t ex => nomatch ex) (by rw [n1, n2]) hq')
end PySem.W
namespace Rx
open PySem PySem.Spec PyProof.Rows L2
section
variable {X : Cx}
def encT (p : Addr × List Int) : PyData := .tuple (p.2.map .int)
theorem dataLt_ints : ∀ (ns ms : List Int), PyProof.Rows.lexLt itemOrd (PySem.W.keyToksAll (ns.map .int)) (PySem.W.keyToksAll (ms.map .int)) = HT.lexLt ns ms
  | [], [] => PyProof.Rows.lex_irrefl _
  | [], m :: ms => by
    show PyProof.Rows.lexLt itemOrd (PySem.W.keyToksAll []) (PySem.W.keyToksAll (PyData.int m :: ms.map .int)) = true
    simp only [PySem.W.keyToksAll]
    rw [PyProof.Rows.lex_cons]
    rfl
  | n :: ns, [] => by
    show PyProof.Rows.lexLt itemOrd (PySem.W.keyToksAll (PyData.int n :: ns.map .int)) (PySem.W.keyToksAll []) = false
    simp only [PySem.W.keyToksAll]
    rw [PyProof.Rows.lex_cons]
    rfl
  | n :: ns, m :: ms => by
    show PyProof.Rows.lexLt itemOrd (PySem.W.keyToksAll (PyData.int n :: ns.map .int)) (PySem.W.keyToksAll (PyData.int m :: ms.map .int)) = _
    rw [PySem.W.dataLt_cons (by simp [PySem.W.alike]), dataLt_ints ns ms, HT.lexLt_cons, PySem.W.dataLt_int]
    simp only [PyData.eqv, beq_iff_eq]
theorem le_of (p q : Addr × List Int) : PySem.W.dataLe false encT p q = !HT.lexLt q.2 p.2 := by
  show (!PySem.W.dataLt (.tuple (q.2.map .int)) (.tuple (p.2.map .int))) = _
  rw [PySem.W.dataLt_tuple, dataLt_ints]
/-- sorted(xs), xs a list of tuples of ints that ascends: a new list, the same -/
def rSortAsc (K : PySem.W.Frag) : List V → Hp → VK → Prop := fun vs H Q => ∃ (a : Addr) (L : List (Addr × List Int)), vs = [V.ref a] ∧ SqL K H a (L.map fun p => V.ref p.1) ∧ (∀ p ∈ L, SqT K H p.1 (p.2.map V.int)) ∧ L.Pairwise (fun p q => HT.lexLt q.2 p.2 = false) ∧
  ((∀ p ∈ L, p.2 ≠ []) ∨ ∃ t, L = [(t, [])]) ∧ ∀ p, H p = none → Q (.ref p) (upd H p (.lst (L.map fun p => V.ref p.1)))
theorem reads_ints {h : Heap} : ∀ {ns : List Int} {us : List Value}, Vals (ns.map V.int) us → ∃ as, ReadsAll h us (ns.map .int) as
  | [], _, r => by
    cases r
    exact ⟨[], .nil⟩
  | n :: ns, _, r => by
    cases r with
    | cons r1 r2 =>
      obtain ⟨t, rfl⟩ := r1
      obtain ⟨as, h⟩ := reads_ints (h := h) r2
      exact ⟨[] ++ as, .cons (.int _ _) h⟩
theorem each_refs : ∀ {L : List (Addr × List Int)} {us : List Value} {Rl : Value → Addr × List Int → Prop}, Vals (L.map fun p => V.ref p.1) us → (∀ p ∈ L, Rl (.ref p.1) p) → PySem.W.EachIs Rl us L
  | [], _, _, r, _ => by
    cases r
    exact .nil
  | p :: L, _, _, r, h => by
    cases r with
    | cons r1 r2 =>
      cases r1
      exact .cons (h p List.mem_cons_self) (each_refs r2 fun q hq => h q (List.mem_cons_of_mem _ hq))
theorem each_back : ∀ {L : List (Addr × List Int)} {us : List Value}, PySem.W.EachIs (fun v p => v = Value.ref p.1) us L → Vals (L.map fun p => V.ref p.1) us
  | _, _, .nil => .nil
  | _, _, .cons h t => .cons (by rw [h]; rfl) (each_back t)
theorem depth_le1 (ns : List Int) : (PyData.tuple (ns.map .int)).depth ≤ 1 := by
  show PyData.depthAll (ns.map .int) + 1 ≤ 1
  rw [PySem.W.depth_ints]
  exact Nat.le_refl 1
theorem cr_sortAsc (hu : X.A.units + 64 < cLine) : CallR X (.builtin "sorted") (rSortAsc X.K) := by
  intro pins s σ H vs us Q I r h
  obtain ⟨a, L, rfl, hs, ht, hp, hk, q⟩ := h
  obtain ⟨its, rv, hl, hz⟩ := I.list hs
  obtain ⟨u, rfl, ru⟩ := vals1 r
  obtain rfl : u = Value.ref a := ru
  have hz' : L.length ≤ sizeLine := by rw [List.length_map] at hz; exact hz
  have e : PySem.W.EachIs (fun v (p : Addr × List Int) => v = Value.ref p.1) its L := each_refs rv fun p _ => rfl
  have er : PySem.W.EachIs (fun v p => ∃ as, Reads s.heap v (encT p) as) its L := each_refs rv fun p hm => by
    obtain ⟨jts, rj, tj, _⟩ := I.tuple (ht p hm)
    obtain ⟨as, ra⟩ := reads_ints (h := s.heap) rj
    obtain ⟨o, ho, hc, n, hd⟩ := tj
    exact ⟨as, .tuple ho hc hd (by simpa using ra)⟩
  have hal : PySem.W.AllAlike (L.map encT) := PySem.W.AllAlike.of fun p p' => by
    show PySem.W.alike (.tuple (p.2.map .int)) (.tuple (p'.2.map .int)) = true
    rw [PySem.W.alike]
    exact PySem.W.alike_ints _ _
  have ms : L.mergeSort (PySem.W.dataLe false encT) = L := List.mergeSort_of_pairwise (hp.imp fun {p p'} hq => by
    rw [le_of, hq]
    rfl)
  have fin : ∀ out : List Value, PySem.W.EachIs (fun v (p : Addr × List Int) => v = Value.ref p.1) out L → EP X pins σ Q (.ref (s.heap.objs.size + 1)) { s with heap := PyProof.Rows.sortedAll s.heap its out.toArray } := by
    intro out eo
    obtain ⟨ep, he'⟩ := PyProof.Rows.sortedAll_at s.heap its out.toArray
    refine ⟨.ref _, upd H (s.heap.objs.size + 1) (.lst (L.map fun p => V.ref p.1)), I.laid (t' := s.toks) (fun _ _ => PyProof.Rows.sortedAll_old) (Nat.le_succ _) ⟨hz, out, ep, each_back eo, by simpa using he'⟩, rfl, q _ (I.hok.fresh (Nat.le_succ _))⟩
  rcases hk with hk | ⟨t, rfl⟩
  · refine PySem.W.sorted_data (R := fun v (p : Addr × List Int) => v = Value.ref p.1) (bs := L) (enc := encT) hl.isList e er hal (.inl fun d hd => ?_) hz' (fun p _ => ?_) fun out _ eo => fin out (by rw [ms] at eo; exact eo)
    · obtain ⟨p, hm, rfl⟩ := List.mem_map.mp hd
      have := hk p hm
      cases hp2 : p.2 with
      | nil => exact absurd hp2 this
      | cons x xs => exact ⟨.int x, xs.map .int, by show PyData.tuple (p.2.map .int) = _; rw [hp2]; rfl⟩
    · have := depth_le1 p.2
      show X.A.units + 2 + (PyData.tuple (p.2.map .int)).depth < cLine
      omega
  · have hs1 : its = [Value.ref t] := by
      cases e with
      | cons h1 h2 =>
        cases h2
        rw [h1]
    subst hs1
    have er' : ∃ as, Reads (PySem.W.sortingHeap (PySem.W.copyHeap s.heap [Value.ref t]) (s.heap.objs.size + 1) [Value.ref t]) (Value.ref t) (.tuple []) as := by
      cases er with
      | cons h1 h2 =>
        obtain ⟨as, r1⟩ := h1
        exact ⟨as, PyProof.Rows.Reads.keeps (fun _ _ => PySem.W.sorting_copy_old) r1⟩
    refine PySem.W.sorted_vals hl.isList (PySem.W.SortsAt.lone (s := { s with heap := PySem.W.sortingHeap (PySem.W.copyHeap s.heap [Value.ref t]) (s.heap.objs.size + 1) [Value.ref t] }) er' (by show X.A.units + 1 + 1 + 2 < cLine; omega)) hz' (fin _ ?_)
    have h1 := PySem.W.sortVals_length (κ := PySem.W.dataKind (PySem.W.sortingHeap (PySem.W.copyHeap s.heap [Value.ref t]) (s.heap.objs.size + 1) [Value.ref t]) [PyData.tuple []]) false (ks := [Value.ref t]) (vs := [Value.ref t]) rfl
    have h2 := fun v => PySem.W.sortVals_mem (κ := PySem.W.dataKind (PySem.W.sortingHeap (PySem.W.copyHeap s.heap [Value.ref t]) (s.heap.objs.size + 1) [Value.ref t]) [PyData.tuple []]) false (ks := [Value.ref t]) (vs := [Value.ref t]) (v := v)
    generalize PySem.W.sortVals _ false [Value.ref t] [Value.ref t] = o at h1 h2 ⊢
    match o, h1, h2 with
    | [v], _, h2 =>
      have := List.mem_singleton.mp (h2 v List.mem_cons_self)
      exact .cons this .nil
end
end Rx
set_option Elab.async false
set_option linter.all false
set_option maxRecDepth 100000
set_option maxHeartbeats 4000000
/-! Rx6: x < y of data -/
namespace Rx
open PySem PySem.Spec PyProof.Rows L2
section
variable {X : Cx}
def rLtD (K : PySem.W.Frag) : R2 := fun x y H Q => ∃ d e, Dp K H x d ∧ Dp K H y e ∧ PySem.W.alike d e = true ∧ d ≠ .none ∧ d.depth ≤ 8 ∧ Q (.bl (PySem.W.dataLt d e)) H
theorem op_ltD (hu : X.A.units + 64 < cLine) : OpR X (compareOp .Lt) (rLtD X.K) := by
  intro pins s σ H x y v u Q I rx ry h
  obtain ⟨d, e, hd, he, ha, hn, h8, q⟩ := h
  obtain ⟨as, r1⟩ := Dp.reads I d x v hd rx
  obtain ⟨bs, r2⟩ := Dp.reads I e y u he ry
  exact PySem.W.lt_data r1 r2 ha hn (by
    have := Nat.min_le_left d.depth e.depth
    omega) ⟨.bl _, H, I, rfl, q⟩
/-- a text ahead of another one: by the number of letters, then as Python has it -/
def ahead (a b : Str) : Bool := if (a.length : Int) = (b.length : Int) then decide (a.cps.toList < b.cps.toList) else decide ((a.length : Int) < (b.length : Int))
theorem lt_len_text (a b : Str) : PySem.W.dataLt (.tuple [.int (a.length : Int), .str a]) (.tuple [.int (b.length : Int), .str b]) = ahead a b := by
  rw [PySem.W.dataLt_pair (by simp [PySem.W.alike]) (by simp [PySem.W.alike]), PySem.W.dataLt_int, PySem.W.dataLt_str]
  unfold ahead
  simp only [PyData.eqv, beq_iff_eq]
  by_cases h : (a.length : Int) = (b.length : Int)
  · rw [if_pos h, if_pos h]
    by_cases z : a = b
    · subst z
      rw [if_pos rfl]
      exact (decide_eq_false (List.lt_irrefl _)).symm
    · rw [if_neg z]
  · rw [if_neg h, if_neg h]
end
end Rx
set_option Elab.async false
set_option linter.all false
set_option maxRecDepth 100000
set_option maxHeartbeats 4000000
namespace K04
open PySem PySem.Spec PyProof.Rows L2 Evl Bx
open Px Lx
theorem flat_tk {α β : Type} (f : α → List β) (l : List α) (j : Nat) : ((l.take j).flatMap f).length ≤ (l.flatMap f).length := by
  conv => rhs; rw [← List.take_append_drop j l, List.flatMap_append, List.length_append]
  omega
section
variable {P : Program} {w : World} {K : PySem.W.Frag} {mg : Str → Option Value} {base : Heap}
/-! ### all texts of a size -/
def sp_wsize (K : PySem.W.Frag) : Sp := fun vs H Q _ => ∃ (L : List Nat) (n : Nat), vs = [tx L, .int (n : Nat)] ∧ 1 ≤ L.length ∧ L.length ≤ 4 ∧ n ≤ 300 ∧ L.length ^ n ≤ 2000 ∧ ∀ H' p, Ex H H' → H p = none → H' p = some (.lst ((wd L n).map tx)) → Q (.ref p) H'
theorem ok_words_of_size (T : Tx K mg) : FnOk P w K mg base CX0 1 T.a_words_of_size T.fd_words_of_size ["letters", "size"] (sp_wsize K) := by
  refine T.F_words_of_size.ok sc_words_of_size (fun vs H Q E h => ?_) (fun cdv A outer s H vs Q E hr h => ?_)
  · obtain ⟨_, _, rfl, _⟩ := h
    rfl
  · obtain ⟨L, n, rfl, l1, l4, n3, hp, q⟩ := h
    refine ⟨_, (pss_cons (ps_set (i := 2) sc_words_of_size.nd rfl (by first | exact Or.inl rfl | exact Or.inr rfl) (pe_lst (pa_cons pe_str pa_nil))) (pss_cons (ps_for PassesOwn.never rfl (pi_range1 (by rfl) T.n_range (pa_cons (pv 1) pa_nil)) (pg_name (i := 3) sc_words_of_size.nd rfl (by first | exact Or.inl rfl | exact Or.inr rfl)) (pss_one (ps_setLc2 (i := 2) (wi1 := iStr (tVar 0)) (own := [("word", 4), ("letter", 5)]) (vs1 := [5]) (g := (gName 4)) (g1 := (gName 5)) (tt := tYes) (tt1 := tYes) (by rfl) sc_words_of_size.nd rfl rfl (sw_true rfl rfl rfl (by decide +kernel)) (pi_list (pv 2)) (blkOk_by (own := [("word", 4), ("letter", 5)]) (N := N_words_of_size) (sc := defScope s_words_of_size) (by decide +kernel)) (by decide) (fun _ _ _ _ _ => (pg_name (i := 4) sc_words_of_size.nd rfl (by first | exact Or.inl rfl | exact Or.inr rfl))) (fun _ _ _ _ _ => pts_nil) (fun _ _ _ _ _ => (pi_str (pv 0))) (fun _ _ _ _ _ => (pg_name (i := 5) sc_words_of_size.nd rfl (by first | exact Or.inl rfl | exact Or.inr rfl))) (fun _ _ _ _ _ => pts_nil) (fun _ _ _ _ _ => (pe_op op_add_str (pv 4) (pv 5)))))) (pss_one (ps_ret (pv 2))))), ?_⟩
    refine ⟨by show 1 ≤ sizeLine; decide, fun p0 np0 => ?_⟩
    have em : V.str (Str.ofString "") = tx [] := by rfl
    have a0 : upd H p0 (.lst [V.str (Str.ofString "")]) p0 = some (.lst ((wd L 0).map tx)) := by rw [upd_same, em]; rfl
    have x0 : Ex H (upd H p0 (.lst [V.str (Str.ofString "")])) := Ex.new np0
    generalize upd H p0 (.lst [V.str (Str.ofString "")]) = H0 at a0 x0 ⊢
    refine ⟨_, rfl, (n : Nat), rfl, by omega, by omega, ?_⟩
    rw [Int.toNat_natCast]
    refine for_range (lo := 0) (n := n) (fun i σ2 H2 => ∃ pw y3 y4 y5, σ2 = [some (tx L), some (.int (n : Nat)), some (.ref pw), y3, y4, y5] ∧ Ex H H2 ∧ H pw = none ∧ H2 pw = some (.lst ((wd L i).map tx))) ⟨p0, _, _, _, rfl, x0, np0, a0⟩ (fun i σ2 H2 hi hp2 => ?_) (fun σ2 H2 hp2 => ?_)
    · obtain ⟨pw, y3, y4, y5, rfl, b1, b2, b3⟩ := hp2
      have pb : L.length ^ (i + 1) ≤ 2000 := Nat.le_trans (Nat.pow_le_pow_right l1 (by omega)) hp
      have wl : (wd L (i + 1)).length ≤ 2000 := by rw [wd_len]; exact pb
      have f9 : i ≤ 300 := by omega
      refine ⟨_, rfl, pw, rfl, ⟨_, .inl (.inl b3)⟩, fun D nD => ?_⟩
      have fD : H D = none := fresh_back b1 nD
      refine ⟨fun j m H' => m = (wd L i).length - j ∧ j ≤ (wd L i).length ∧ Ex H2 H' ∧ H' D = some (.lst ((((wd L i).take j).flatMap fun u => L.map fun a => u ++ [a]).map tx)), ⟨_, rfl, Nat.zero_le _, Ex.new nD, upd_same⟩, ?_⟩
      rintro j m H' ⟨rfl, hj, e1, hD⟩
      by_cases hlt : j < (wd L i).length
      · have ri : (wd L i)[j]? = some (wd L i)[j] := List.getElem?_eq_getElem hlt
        generalize (wd L i)[j] = u at ri
        have lu : u.length = i := wd_size L i u (List.mem_of_getElem? ri)
        have etk : (wd L i).take (j + 1) = (wd L i).take j ++ [u] := by rw [List.take_add_one, ri]; rfl
        have eT : (((wd L i).take (j + 1)).flatMap fun u => L.map fun a => u ++ [a]) = (((wd L i).take j).flatMap fun u => L.map fun a => u ++ [a]) ++ L.map fun a => u ++ [a] := by
          rw [etk, List.flatMap_append, List.flatMap_singleton]
        have bd := flat_tk (fun u => L.map fun a => u ++ [a]) (wd L i) (j + 1)
        have bw : ((wd L i).flatMap fun u => L.map fun a => u ++ [a]).length ≤ 2000 := wl
        rw [eT, List.length_append, List.length_map] at bd
        refine .inr ⟨⟨_, _, .inl (.inl (e1 _ _ b3)), by rw [List.getElem?_map, ri]; rfl⟩, fun H3 => Ex H2 H3 ∧ H3 D = some (.lst ((((wd L i).take (j + 1)).flatMap fun u => L.map fun a => u ++ [a]).map tx)), fun H3 h3 => ⟨(wd L i).length - (j + 1), by omega, rfl, hlt, h3.1, h3.2⟩, fun x H3 y => ?_⟩
        obtain ⟨rfl, fx⟩ := y
        have ex : x = tx u := by
          have := fx _ (.inl (.inl (e1 _ _ b3)))
          rw [List.getElem?_map, ri] at this
          exact (Option.some.inj this).symm
        subst ex
        refine ⟨rfl, ?_⟩
        refine ⟨_, rfl, mk L, rfl, fun k m H4 => m = L.length - k ∧ k ≤ L.length ∧ Ex H2 H4 ∧ H4 D = some (.lst (((((wd L i).take j).flatMap fun u => L.map fun a => u ++ [a]) ++ (L.take k).map fun a => u ++ [a]).map tx)), ⟨_, rfl, Nat.zero_le _, e1, by rw [List.take_zero]; simpa using hD⟩, ?_⟩
        rintro k m2 H4 ⟨rfl, hk, e4, hD4⟩
        have e0 : (mk L).cps.size = L.length := mk_len L
        by_cases kl : k < L.length
        · have rk : L[k]? = some L[k] := List.getElem?_eq_getElem kl
          refine .inr ⟨by show k < (mk L).cps.size; rw [e0]; exact kl, fun H5 => Ex H2 H5 ∧ H5 D = some (.lst (((((wd L i).take j).flatMap fun u => L.map fun a => u ++ [a]) ++ (L.take (k + 1)).map fun a => u ++ [a]).map tx)), fun H5 h5 => ⟨L.length - (k + 1), by omega, rfl, kl, h5.1, h5.2⟩, fun x H5 y => ?_⟩
          obtain ⟨rfl, c, hc, rfl⟩ := y
          have hc' : L[k]? = some c := by rw [← hc]; simp
          have et : L.take (k + 1) = L.take k ++ [c] := by rw [List.take_add_one, hc']; rfl
          refine ⟨rfl, _, rfl, _, rfl, mk u, mk [c], rfl, rfl, by rw [mk_len, mk_len, lu]; exact sz_of (by show _ + 1 ≤ _; omega), ?_⟩
          rw [mk_app]
          refine ⟨_, hD4, by rw [List.length_map, List.length_append, List.length_map, List.length_take]; exact sz_lt (by omega), Ex.mut e4 nD, ?_⟩
          rw [upd_same, et, List.map_append (f := fun a => u ++ [a]), ← List.append_assoc, List.map_append (l₂ := [c].map _)]
          rfl
        · have ek : L.take k = L := List.take_of_length_le (by omega)
          refine .inl ⟨by show (mk L).cps.size ≤ k; rw [e0]; omega, e4, ?_⟩
          rw [eT]
          rw [ek] at hD4
          exact hD4
      · have ej : (wd L i).take j = wd L i := List.take_of_length_le (by omega)
        rw [ej] at hD
        refine .inl ⟨⟨_, .inl (.inl (e1 _ _ b3)), by rw [List.length_map]; omega⟩, ?_⟩
        exact ⟨D, _, _, _, rfl, b1.trans e1, fD, hD⟩
    · obtain ⟨pw, y3, y4, y5, rfl, b1, b2, b3⟩ := hp2
      exact ⟨_, rfl, q H2 pw b1 b2 b3⟩
def sp_texts_of (K : PySem.W.Frag) : Sp := fun vs H Q _ => ∃ (L : List Nat) (n : Nat), vs = [tx L, .int (n : Nat)] ∧ Alph L ∧ n ≤ 300 ∧ L.length ^ n ≤ 2000 ∧ ∀ H' p, Ex H H' → H p = none → H' p = some (.lst ((wd L n).map tx)) → Q (.ref p) H'
theorem ok_texts_of (T : Tx K mg) : FnOk P w K mg base CX0 4 T.a_texts_of T.fd_texts_of ["letters", "size"] (sp_texts_of K) := by
  refine T.F_texts_of.ok sc_texts_of (fun vs H Q E h => ?_) (fun cdv A outer s H vs Q E hr h => ?_)
  · obtain ⟨_, _, rfl, _⟩ := h
    rfl
  · obtain ⟨L, n, rfl, aL, n3, hp, q⟩ := h
    refine ⟨_, (pss_cons (ps_expr (pe_call (ok_need_letters T) (hr.mono (by decide)) (by rfl) T.g_need_letters T.F_need_letters.kp (b_need_letters T) .nil pass0 (pa_cons (pv 0) pa_nil))) (pss_cons (ps_if (pt_not (pt_val (pe_call (ok_is_from_to T) (hr.mono (by decide)) (by rfl) T.g_is_from_to T.F_is_from_to.kp (b_is_from_to T) .nil pass0 (pa_cons (pv 1) (pa_cons pe_int (pa_cons (pe_glob (v := .int 300) (by rfl) T.c_MOST_IN_TEXT ⟨_, rfl⟩) pa_nil)))))) (pss_one ps_never) pss_nil) (pss_cons (ps_set (i := 2) sc_texts_of.nd rfl (by first | exact Or.inl rfl | exact Or.inr rfl) (pe_call (ok_raised T) (hr.mono (by decide)) (by rfl) T.g_raised T.F_raised.kp (b_raised T) .nil pass0 (pa_cons (pe_callB call_len_str (by rfl) T.n_len (by decide +kernel) (pa_cons (pv 0) pa_nil)) (pa_cons (pv 1) pa_nil)))) (pss_cons (ps_if (pt_cmpR op_gt (pv 2) (pe_glob (v := .int 2000) (by rfl) T.c_MOST_TEXTS ⟨_, rfl⟩) (nomark _)) (pss_one ps_never) pss_nil) (pss_one (ps_ret (pe_call (ok_words_of_size T) (hr.mono (by decide)) (by rfl) T.g_words_of_size T.F_words_of_size.kp (b_words_of_size T) .nil pass0 (pa_cons (pv 0) (pa_cons (pv 1) pa_nil))))))))), ?_⟩
    have l4 := aL.four
    have l1 := aL.one
    refine ⟨_, rfl, L, rfl, aL, fun H1 e1 => ?_⟩
    refine ⟨_, rfl, _, _, _, rfl, by omega, by omega, true, rfl, iteF ?_⟩
    refine ⟨_, rfl, mk L, rfl, by rw [mk_len]; exact sz_of (by omega), _, rfl, L.length, n, by rw [mk_len]; rfl, l1, l4, by omega, ?_⟩
    refine ⟨_, rfl, _, 2000, rfl, rfl, _, rfl, ?_⟩
    rw [decide_eq_false (by omega : ¬ ((L.length ^ n : Nat) : Int) > 2000)]
    refine iteF ⟨_, rfl, _, rfl, L, n, rfl, l1, l4, n3, hp, fun H2 p e2 n2 h2 => q H2 p (e1.trans e2) (fresh_back e1 n2) h2⟩
def sp_ahead (K : PySem.W.Frag) : Sp := fun vs H Q _ => ∃ (a b : List Nat), vs = [tx a, tx b] ∧ Low a ∧ Low b ∧ a.length ≤ 1000 ∧ b.length ≤ 1000 ∧ ∀ H', Ex H H' → Q (.bl (Rx.ahead (mk a) (mk b))) H'
theorem ok_is_ahead (T : Tx K mg) : FnOk P w K mg base CX0 3 T.a_is_ahead T.fd_is_ahead ["one", "other"] (sp_ahead K) := by
  refine T.F_is_ahead.ok sc_is_ahead (fun vs H Q E h => ?_) (fun cdv A outer s H vs Q E hr h => ?_)
  · obtain ⟨_, _, rfl, _⟩ := h
    rfl
  · obtain ⟨a, b, rfl, ha, hb, la, lb, q⟩ := h
    refine ⟨_, (pss_cons (ps_expr (pe_call (ok_need_text T) (hr.mono (by decide)) (by rfl) T.g_need_text T.F_need_text.kp (b_need_text T) .nil pass0 (pa_cons (pv 0) pa_nil))) (pss_cons (ps_expr (pe_call (ok_need_text T) (hr.mono (by decide)) (by rfl) T.g_need_text T.F_need_text.kp (b_need_text T) .nil pass0 (pa_cons (pv 1) pa_nil))) (pss_one (ps_ret (pe_cmpR (Rx.op_ltD hr.units) (pe_tup (pa_cons (pe_callB call_len_str (by rfl) T.n_len (by decide +kernel) (pa_cons (pv 0) pa_nil)) (pa_cons (pv 0) pa_nil))) (pe_tup (pa_cons (pe_callB call_len_str (by rfl) T.n_len (by decide +kernel) (pa_cons (pv 1) pa_nil)) (pa_cons (pv 1) pa_nil))) (nomark _)))))), ?_⟩
    refine ⟨_, rfl, a, rfl, ha, _, rfl, b, rfl, hb, ?_⟩
    refine ⟨_, rfl, mk a, rfl, by rw [mk_len]; exact sz_of (by omega), _, rfl, by show 2 ≤ sizeLine; decide, fun p1 n1 => ?_⟩
    refine ⟨_, rfl, mk b, rfl, by rw [mk_len]; exact sz_of (by omega), _, rfl, by show 2 ≤ sizeLine; decide, fun p2 n2 => ?_⟩
    refine ⟨.tuple [.int ((mk a).length : Int), .str (mk a)], .tuple [.int ((mk b).length : Int), .str (mk b)], .tup (.inl (.inl (Ex.new n2 _ _ upd_same))) (.cons (.int _) (.cons (.str _) .nil)), .tup (.inl (.inl upd_same)) (.cons (.int _) (.cons (.str _) .nil)), by simp [PySem.W.alike, PySem.W.alikeAll], by simp, by simp [PyData.depth, PyData.depthAll], ?_⟩
    rw [Rx.lt_len_text]
    exact q _ ((Ex.new n1).trans (Ex.new n2))
end
end K04
set_option Elab.async false
set_option linter.all false
set_option maxRecDepth 100000
set_option maxHeartbeats 4000000
namespace K04
open PySem PySem.Spec PyProof.Rows L2 Evl Bx
section
variable {P : Program} {w : World} {K : PySem.W.Frag} {mg : Str → Option Value} {base : Heap}
/-! ### draws -/
def sp__law_hash (K : PySem.W.Frag) : Sp := fun vs H Q _ => ∃ s i : Int, vs = [.int s, .int i] ∧ 0 ≤ s ∧ s < 2147483647 ∧ 0 ≤ i ∧ i ≤ 2 ^ 60 ∧ ∀ r : Int, 0 ≤ r → r < 2147483647 → Q (.int r) H
theorem ok__law_hash (T : Tx K mg) : FnOk P w K mg base CX0 1 T.a__law_hash T.fd__law_hash ["_law_seed", "_law_index"] (sp__law_hash K) := by
  refine T.F__law_hash.ok sc__law_hash (fun vs H Q E h => ?_) (fun cdv A outer s H vs Q E hr h => ?_)
  · obtain ⟨_, _, rfl, _⟩ := h
    rfl
  · obtain ⟨s0, i, rfl, s1, s2, i1, i2, q⟩ := h
    refine ⟨_, (pss_cons (ps_set (i := 2) sc__law_hash.nd rfl (by first | exact Or.inl rfl | exact Or.inr rfl) (pe_op op_mod (pe_callTy call_int1 (by rfl) T.n_int (by decide +kernel) (pa_cons (pe_op op_add (pe_op op_add (pe_op op_add (pe_op op_mulW (pv 0) pe_int) (pe_op op_mulW (pe_op op_mulW pe_int (pv 1)) (pv 1))) (pe_op op_mulW pe_int (pv 1))) pe_int) pa_nil)) pe_int)) (pss_cons (ps_set (i := 2) sc__law_hash.nd rfl (by first | exact Or.inl rfl | exact Or.inr rfl) (pe_op op_mod (pe_callTy call_int1 (by rfl) T.n_int (by decide +kernel) (pa_cons (pe_op op_add (pe_op op_add (pe_op op_mulW (pv 2) (pv 2)) (pe_op op_mulW pe_int (pv 1))) pe_int) pa_nil)) pe_int)) (pss_one (ps_ret (pe_op op_mod (pe_callTy call_int1 (by rfl) T.n_int (by decide +kernel) (pa_cons (pe_op op_mulW (pv 2) pe_int) pa_nil)) pe_int))))), ?_⟩
    refine ⟨_, rfl, _, _, rfl, rfl, mul_ok (small_abs (by omega)) (small_abs (by decide)), _, rfl, _, _, rfl, rfl, mul_ok (small_abs (by decide)) (small_abs (by omega)), _, rfl, _, _, rfl, rfl, mul_ok (mid_abs (by omega)) (small_abs (by omega)), _, _, rfl, rfl, _, rfl, _, _, rfl, rfl, mul_ok (small_abs (by decide)) (small_abs (by omega)), _, _, rfl, rfl, _, _, rfl, rfl, .inl ⟨_, rfl, ?_⟩⟩
    refine ⟨_, _, rfl, rfl, (by show (0 : Int) < 2147483629; decide), ?_⟩
    generalize hx : (s0 * 1140671 + 27644437 * i * i + 131 * i + 19 : Int) % 2147483629 = x
    have x1 : 0 ≤ x := by rw [← hx]; exact Int.emod_nonneg _ (by decide)
    have x2 : x < 2147483629 := by rw [← hx]; exact Int.emod_lt_of_pos _ (by decide)
    refine ⟨_, rfl, _, rfl, _, _, rfl, rfl, mul_ok (small_abs (by omega)) (small_abs (by omega)), _, rfl, _, _, rfl, rfl, mul_ok (small_abs (by decide)) (small_abs (by omega)), _, _, rfl, rfl, _, _, rfl, rfl, .inl ⟨_, rfl, ?_⟩⟩
    refine ⟨_, _, rfl, rfl, (by show (0 : Int) < 2147483587; decide), ?_⟩
    generalize hy : (x * x + 62089 * i + 32416187 : Int) % 2147483587 = y
    have y1 : 0 ≤ y := by rw [← hy]; exact Int.emod_nonneg _ (by decide)
    have y2 : y < 2147483587 := by rw [← hy]; exact Int.emod_lt_of_pos _ (by decide)
    refine ⟨_, rfl, _, _, rfl, rfl, mul_ok (small_abs (by omega)) (small_abs (by decide)), .inl ⟨_, rfl, ?_⟩⟩
    refine ⟨_, _, rfl, rfl, (by show (0 : Int) < 2147483647; decide), ?_⟩
    exact q _ (Int.emod_nonneg _ (by decide)) (Int.emod_lt_of_pos _ (by decide))
end
end K04
set_option Elab.async false
set_option linter.all false
set_option maxRecDepth 100000
set_option maxHeartbeats 4000000
namespace K04
open PySem PySem.Spec PyProof.Rows L2 Evl Bx
section
variable {P : Program} {w : World} {K : PySem.W.Frag} {mg : Str → Option Value} {base : Heap}
def sp__law_random (K : PySem.W.Frag) : Sp := fun vs H Q _ => ∃ (g : Addr) (bd : Int) (n : Nat), vs = [.ref g, .int bd] ∧ 0 < bd ∧ bd < 2 ^ 200 ∧ Gen H g n ∧ n ≤ 2 ^ 50 ∧
  ∀ (r : Int) H', 0 ≤ r → r < bd → Xg g H H' → Gen H' g (n + 10) → Q (.int r) H'
theorem grow_lt (i : Nat) (hi : i ≤ 20) : (2 : Nat) ^ (32 * i) < 2 ^ 9000 := Nat.pow_lt_pow_right (by decide) (by omega)
theorem ok__law_random (T : Tx K mg) : FnOk P w K mg base CX0 2 T.a__law_random T.fd__law_random ["_law_generator_here", "_law_bound"] (sp__law_random K) := by
  refine T.F__law_random.ok sc__law_random (fun vs H Q E h => ?_) (fun cdv A outer s H vs Q E hr h => ?_)
  · obtain ⟨_, _, _, rfl, _⟩ := h
    rfl
  · obtain ⟨g, bd, n, rfl, b1, b2, ⟨b, s0, c, hg, g1, g2, g3, g4, g5, g6⟩, n50, q⟩ := h
    refine ⟨_, (pss_cons (ps_if (pt_cmpR op_gt (pe_ix ix_list (pv 0) pe_int (fun _ _ => rfl)) pe_int (nomark _)) (pss_cons (ps_set (i := 2) sc__law_random.nd rfl (by first | exact Or.inl rfl | exact Or.inr rfl) (pe_op op_mod (pe_callTy call_int1 (by rfl) T.n_int (by decide +kernel) (pa_cons (pe_ix ix_list (pv 0) pe_int (fun _ _ => rfl)) pa_nil)) (pv 1))) (pss_cons (ps_asg (pe_op op_fdivW (pe_ix ix_list (pv 0) pe_int (fun _ _ => rfl)) (pv 1)) (pg_sub (pv 0) pe_int set_list)) (pss_one (ps_ret (pv 2))))) pss_nil) (pss_cons (ps_set (i := 2) sc__law_random.nd rfl (by first | exact Or.inl rfl | exact Or.inr rfl) pe_int) (pss_cons (ps_for PassesOwn.never rfl (pi_range1 (by rfl) T.n_range (pa_cons (pe_op op_add pe_int (pe_op op_fdivW (pe_bits (pv 1)) pe_int)) pa_nil)) (pg_name (i := 3) sc__law_random.nd rfl (by first | exact Or.inl rfl | exact Or.inr rfl)) (pss_cons (ps_asg (pe_op op_add (pe_ix ix_list (pv 0) pe_int (fun _ _ => rfl)) pe_int) (pg_sub (pv 0) pe_int set_list)) (pss_one (ps_set (i := 2) sc__law_random.nd rfl (by first | exact Or.inl rfl | exact Or.inr rfl) (pe_op op_add (pe_op op_mulW (pv 2) pe_int) (pe_call (ok__law_hash T) (hr.mono (by decide)) (by rfl) T.g__law_hash T.F__law_hash.kp (b__law_hash T) .nil pass0 (pa_cons (pe_ix ix_list (pv 0) pe_int (fun _ _ => rfl)) (pa_cons (pe_ix ix_list (pv 0) pe_int (fun _ _ => rfl)) pa_nil)))))))) (pss_one (ps_ret (pe_op op_mod (pe_callTy call_int1 (by rfl) T.n_int (by decide +kernel) (pa_cons (pv 2) pa_nil)) (pv 1))))))), ?_⟩
    refine ⟨_, rfl, g, _, _, .int b, rfl, rfl, .inl (.inl hg), atI_nat (j := 0) rfl, _, 0, rfl, rfl, _, rfl, ite2 (fun h => ?_) (fun h => ?_)⟩
    · -- a great seed is left
      refine ⟨_, rfl, g, _, _, .int b, rfl, rfl, .inl (.inl hg), atI_nat (j := 0) rfl, .inl ⟨_, rfl, ?_⟩⟩
      refine ⟨_, rfl, _, _, rfl, rfl, b1, ?_⟩
      refine ⟨_, rfl, g, _, _, .int b, rfl, rfl, .inl (.inl hg), atI_nat (j := 0) rfl, _, rfl, _, _, rfl, rfl, wide_div b1 (b := 200) (by omega) (by decide) (by decide), ?_⟩
      refine ⟨_, rfl, g, _, _, 0, rfl, rfl, hg, ixN_nat (j := 0) (by simp), ?_⟩
      refine ⟨_, rfl, q _ _ (Int.emod_nonneg _ (by omega)) (Int.emod_lt_of_pos _ b1) (Xg.refl g H).upd ⟨b / bd, s0, c, upd_same, Int.ediv_nonneg g1 (by omega), ?_, g3, g4, g5, by omega⟩⟩
      exact Int.lt_of_le_of_lt (Int.ediv_le_self _ g1) g2
    · -- the hash
      have hb := bits_le (i := bd) (n := 200) (by decide) (by omega)
      refine ⟨_, rfl, _, rfl, _, _, rfl, rfl, ⟨by decide, by decide⟩, _, _, rfl, rfl, ?_⟩
      have hd : ((Builtin.Int.intBits bd : Nat) : Int) / 30 ≤ 6 := by omega
      have hd0 : 0 ≤ ((Builtin.Int.intBits bd : Nat) : Int) / 30 := by omega
      refine ⟨_, rfl, by omega, by omega, ?_⟩
      have hm : (1 + ((Builtin.Int.intBits bd : Nat) : Int) / 30).toNat ≤ 7 := by omega
      generalize (1 + ((Builtin.Int.intBits bd : Nat) : Int) / 30).toNat = m at hm
      refine for_range (lo := 0) (n := m) (fun i σ H2 => ∃ (dr : Int) (y3 : Option V), σ = [some (.ref g), some (.int bd), some (.int dr), y3] ∧ 0 ≤ dr ∧ dr < 2 ^ (32 * i) ∧ Xg g H H2 ∧ ∃ c2 : Int, H2 g = some (.lst [.int b, .int s0, .int c2]) ∧ 0 ≤ c2 ∧ c2 ≤ n + i) ⟨0, none, rfl, by decide, by decide, Xg.refl g H, c, hg, g5, by omega⟩ (fun i σ H2 hi hp => ?_) (fun σ H2 hp => ?_)
      · obtain ⟨dr, y3, rfl, d0, d1, xg, c2, hg2, c20, c21⟩ := hp
        refine ⟨_, rfl, g, _, _, .int c2, rfl, rfl, .inl (.inl hg2), atI_nat (j := 2) rfl, _, _, rfl, rfl, ?_⟩
        refine ⟨_, rfl, g, _, _, 2, rfl, rfl, hg2, ixN_nat (j := 2) (by simp), ?_⟩
        have hg3 : upd H2 g (.lst [.int b, .int s0, .int (c2 + 1)]) g = some (.lst [.int b, .int s0, .int (c2 + 1)]) := upd_same
        have xg3 : Xg g H (upd H2 g (.lst [.int b, .int s0, .int (c2 + 1)])) := xg.upd
        show _
        have dn : dr.natAbs < 2 ^ 9000 := Nat.lt_of_lt_of_le (m := 2 ^ (32 * i)) (by
          have e : ((2 ^ (32 * i) : Nat) : Int) = (2 : Int) ^ (32 * i) := by rw [Int.natCast_pow]; rfl
          have : (dr.natAbs : Int) < ((2 ^ (32 * i) : Nat) : Int) := by rw [e, Int.natAbs_of_nonneg d0]; exact d1
          omega) (Nat.le_of_lt (grow_lt i (by omega)))
        refine ⟨_, rfl, _, _, rfl, rfl, mul_ok dn (small_abs (by decide)), _, rfl, g, _, _, .int s0, rfl, rfl, .inl (.inl hg3), atI_nat (j := 1) rfl, _, rfl, g, _, _, .int (c2 + 1), rfl, rfl, .inl (.inl hg3), atI_nat (j := 2) rfl, s0, c2 + 1, rfl, g3, g4, by omega, by omega, fun r r1 r2 => ?_⟩
        refine ⟨_, _, rfl, rfl, dr * 2147483587 + r, some (.int (0 + (i : Int))), rfl, ?_, ?_, xg3, c2 + 1, hg3, by omega, by omega⟩
        · have : 0 ≤ dr * 2147483587 := Int.mul_nonneg d0 (by decide)
          omega
        · have e : (2 : Int) ^ (32 * (i + 1)) = 2 ^ (32 * i) * 4294967296 := by
            rw [Nat.mul_add, Int.pow_add]
            rfl
          rw [e]
          generalize (2 : Int) ^ (32 * i) = z at d1 ⊢
          omega
      · obtain ⟨dr, y3, rfl, d0, d1, xg, c2, hg2, c20, c21⟩ := hp
        refine ⟨_, rfl, .inl ⟨_, rfl, ?_⟩⟩
        exact ⟨_, rfl, _, _, rfl, rfl, b1, q _ _ (Int.emod_nonneg _ (by omega)) (Int.emod_lt_of_pos _ b1) xg ⟨b, s0, c2, hg2, g1, g2, g3, g4, c20, by omega⟩⟩
/-! ### cells, generators -/
def sp__law_cell (K : PySem.W.Frag) : Sp := fun vs H Q _ => ∃ (a : Addr) (ns : List Int) (k : Nat), vs = [.ref a, .int (k : Nat)] ∧ SqL K H a (ns.map V.int) ∧ k ≤ 1000 ∧ ∀ (v : Int) H', Ex H H' → Q (.int v) H'
theorem cut_ints (ns : List Int) (lo hi : Option Int) : cutV (ns.map V.int) lo hi = ((ns.drop (HT.sIx ns.length 0 lo)).take (HT.sIx ns.length ns.length hi - HT.sIx ns.length 0 lo)).map V.int := by
  unfold cutV
  rw [List.length_map, List.map_take, List.map_drop]
theorem ok__law_cell (T : Tx K mg) : FnOk P w K mg base CX0 1 T.a__law_cell T.fd__law_cell ["_law_script", "_law_index"] (sp__law_cell K) := by
  refine T.F__law_cell.ok sc__law_cell (fun vs H Q E h => ?_) (fun cdv A outer s H vs Q E hr h => ?_)
  · obtain ⟨_, _, _, rfl, _⟩ := h
    rfl
  · obtain ⟨a, ns, k, rfl, hs, k1, q⟩ := h
    refine ⟨_, (pss_cons (ps_if (pt_cmpR op_lt (pv 1) (pe_callB call_len_seq (by rfl) T.n_len (by decide +kernel) (pa_cons (pv 0) pa_nil)) (nomark _)) (pss_one (ps_ret (pe_ix ix_list (pv 0) (pv 1) (fun _ _ => rfl)))) pss_nil) (pss_one (ps_ret (pe_op op_mod (pe_callB (cr_sum rfl) (by rfl) T.n_sum (by decide +kernel) (pa_cons (pe_slice sl_list (pv 0) po_none (po_some pe_int)) pa_nil)) pe_int)))), ?_⟩
    refine ⟨_, rfl, _, rfl, a, _, rfl, .inl hs, _, _, rfl, rfl, _, rfl, ite2 (fun h => ?_) (fun h => ?_)⟩
    · have h1 := of_decide_eq_true h
      rw [List.length_map] at h1
      have lt : k < ns.length := by omega
      exact ⟨_, rfl, _, rfl, a, _, _, .int ns[k], rfl, rfl, hs, atI_nat (by rw [List.getElem?_map, List.getElem?_eq_getElem lt]; rfl), q _ H (Ex.refl H)⟩
    · refine ⟨_, rfl, 1, rfl, a, _, rfl, hs, fun p np => ?_⟩
      rw [cut_ints]
      refine ⟨p, _, rfl, .inl (.inl upd_same), _, _, rfl, rfl, (by show (0 : Int) < 1000003; decide), q _ _ (Ex.new np)⟩
def sp__law_generator (K : PySem.W.Frag) : Sp := fun vs H Q _ => ∃ (a : Addr) (ns : List Int) (k : Nat), vs = [.ref a, .int (k : Nat)] ∧ SqL K H a (ns.map V.int) ∧ k ≤ 1000 ∧ ∀ (g : Addr) H', Ex H H' → H g = none → Gen H' g (1000 * k) → Q (.ref g) H'
theorem great : ((10 : Int) ^ 60) ^ 10 < 2 ^ 3000 := by decide +kernel
theorem ok__law_generator (T : Tx K mg) : FnOk P w K mg base CX0 2 T.a__law_generator T.fd__law_generator ["_law_script", "_law_index"] (sp__law_generator K) := by
  refine T.F__law_generator.ok sc__law_generator (fun vs H Q E h => ?_) (fun cdv A outer s H vs Q E hr h => ?_)
  · obtain ⟨_, _, _, rfl, _⟩ := h
    rfl
  · obtain ⟨a, ns, k, rfl, hs, k1, q⟩ := h
    refine ⟨_, (pss_cons (ps_set (i := 2) sc__law_generator.nd rfl (by first | exact Or.inl rfl | exact Or.inr rfl) (pe_call (ok__law_cell T) (hr.mono (by decide)) (by rfl) T.g__law_cell T.F__law_cell.kp (b__law_cell T) .nil pass0 (pa_cons (pv 0) (pa_cons (pv 1) pa_nil)))) (pss_one (ps_ret (pe_lst (pa_cons (pe_op op_mod (pe_callTy call_int1 (by rfl) T.n_int (by decide +kernel) (pa_cons (pe_callB (call_max2 rfl) (by rfl) T.n_max (by decide +kernel) (pa_cons (pe_op op_sub (pv 2) (pe_op Rx.op_powB pe_int pe_int)) (pa_cons pe_int pa_nil))) pa_nil)) (pe_op Rx.op_powB (pe_op Rx.op_powB pe_int pe_int) pe_int)) (pa_cons (pe_op op_mod (pe_callTy call_int1 (by rfl) T.n_int (by decide +kernel) (pa_cons (pv 2) pa_nil)) pe_int) (pa_cons (pe_op op_mulW pe_int (pv 1)) pa_nil))))))), ?_⟩
    refine ⟨_, rfl, _, rfl, a, ns, k, rfl, hs, k1, fun v H1 e1 => ?_⟩
    refine ⟨_, rfl, _, _, rfl, rfl, ⟨by decide, by decide +kernel⟩, _, _, rfl, rfl, _, _, rfl, .inl ⟨_, rfl, ?_⟩⟩
    refine ⟨_, _, rfl, rfl, ⟨by decide, by decide +kernel⟩, _, _, rfl, rfl, ⟨by decide, by decide +kernel⟩, _, _, rfl, rfl, ?_, ?_⟩
    · show (0 : Int) < (10 ^ 60) ^ 10
      decide +kernel
    refine ⟨_, rfl, .inl ⟨_, rfl, _, _, rfl, rfl, (by show (0 : Int) < 2147483647; decide), _, rfl, _, _, rfl, rfl, mul_ok (small_abs (by decide)) (small_abs (by omega)), ?_⟩⟩
    refine ⟨by show 3 ≤ sizeLine; decide, fun p np => ?_⟩
    refine q p _ (e1.trans (Ex.new np)) (fresh_back e1 np) ⟨_, _, _, upd_same, ?_, ?_, ?_, ?_, by omega, by omega⟩
    · exact Int.emod_nonneg _ (by
        show ((10 : Int) ^ 60) ^ 10 ≠ 0
        decide +kernel)
    · refine Int.lt_trans (Int.emod_lt_of_pos _ ?_) great
      show (0 : Int) < (10 ^ 60) ^ 10
      decide +kernel
    · exact Int.emod_nonneg _ (by decide)
    · exact Int.emod_lt_of_pos _ (by decide)
end
end K04
set_option Elab.async false
set_option linter.all false
set_option maxRecDepth 100000
set_option maxHeartbeats 4000000
namespace K04
open PySem PySem.Spec PyProof.Rows L2 Evl Bx
section
variable {P : Program} {w : World} {K : PySem.W.Frag} {mg : Str → Option Value} {base : Heap}
/-! ### drawn texts -/
def sp__law_text (K : PySem.W.Frag) : Sp := fun vs H Q _ => ∃ (g : Addr) (L : List Nat) (m n : Nat), vs = [.ref g, tx L, .int (m : Nat)] ∧ 1 ≤ L.length ∧ L.length ≤ 1000 ∧ m ≤ 1000 ∧ Gen H g n ∧ n ≤ 2 ^ 40 ∧
  ∀ (t : List Nat) H', t.length = m → (∀ c ∈ t, c ∈ L) → Xg g H H' → Gen H' g (n + 10 * m) → Q (tx t) H'
theorem ok__law_text (T : Tx K mg) : FnOk P w K mg base CX0 3 T.a__law_text T.fd__law_text ["_law_generator_here", "_law_letters", "_law_size"] (sp__law_text K) := by
  refine T.F__law_text.ok sc__law_text (fun vs H Q E h => ?_) (fun cdv A outer s H vs Q E hr h => ?_)
  · obtain ⟨_, _, _, _, rfl, _⟩ := h
    rfl
  · obtain ⟨g, L, m, n, rfl, l1, l2, m1, gn, n1, q⟩ := h
    refine ⟨_, (pss_one (ps_ret (pe_join pe_str (pe_lc (own := [("_law_turn", 3)]) (g := (gName 3)) (tt := tYes) rfl sc__law_text.nd (pi_range1 (by rfl) T.n_range (pa_cons (pv 2) pa_nil)) (blkOk_by (own := [("_law_turn", 3)]) (N := N__law_text) (sc := defScope s__law_text) (by decide +kernel)) (fun _ _ _ _ _ => (pg_name (i := 3) sc__law_text.nd rfl (by first | exact Or.inl rfl | exact Or.inr rfl))) (fun _ _ _ _ _ => pts_nil) (fun _ _ _ _ _ => (pe_ix ix_str (pv 1) (pe_call (ok__law_random T) (hr.mono (by decide)) (by rfl) T.g__law_random T.F__law_random.kp (b__law_random T) .nil pass0 (pa_cons (pv 0) (pa_cons (pe_callB call_len_str (by rfl) T.n_len (by decide +kernel) (pa_cons (pv 1) pa_nil)) pa_nil))) (fun _ _ => rfl))))))), ?_⟩
    refine ⟨⟨_, rfl⟩, _, rfl, (m : Nat), rfl, by omega, by omega, fun D nD => ?_⟩
    rw [Int.toNat_natCast]
    have gD : g ≠ D := gn.ne nD
    refine lc_range (lo := 0) (n := m) (fun i H2 => ∃ t : List Nat, t.length = i ∧ (∀ c ∈ t, c ∈ L) ∧ Xg g H H2 ∧ Gen H2 g (n + 10 * i) ∧ H2 D = some (.lst ((t.map fun c => mk [c]).map V.str))) ⟨[], rfl, by simp, Xg.of (Ex.new nD), gn.oth gD, upd_same⟩ (fun i H2 hi hp => ?_) (fun H2 hp => ?_)
    · obtain ⟨t, tl, tm, xg, gn2, hD⟩ := hp
      refine ⟨rfl, ?_⟩
      refine ⟨_, rfl, _, rfl, _, rfl, mk L, rfl, by rw [mk_len]; exact sz_of (by omega), g, _, n + 10 * i, rfl, by rw [mk_len]; omega, by rw [mk_len]; omega, gn2, by omega, fun r H3 r0 r1 xg3 gn3 => ?_⟩
      rw [mk_len] at r1
      obtain ⟨k, rfl⟩ := Int.eq_ofNat_of_zero_le r0
      have rl : k < L.length := by omega
      refine ⟨mk L, _, L[k], rfl, rfl, by rw [mk_len]; exact sz_of (by omega), atI_nat (by rw [mk_list]; exact List.getElem?_eq_getElem rl), ?_⟩
      have hD3 := xg3 D _ gD.symm hD
      refine ⟨_, hD3, by rw [List.length_map, List.length_map, tl]; exact sz_lt (by omega), t ++ [L[k]], by rw [List.length_append, tl]; rfl, fun c hc => ?_, (xg.trans xg3).mut nD, ?_, ?_⟩
      · rcases List.mem_append.mp hc with e | e
        · exact tm c e
        · rw [List.mem_singleton] at e
          rw [e]
          exact List.getElem_mem rl
      · have e : n + 10 * (i + 1) = n + 10 * i + 10 := by omega
        rw [e]
        exact gn3.oth gD
      · rw [upd_same, List.map_append, List.map_append]
        rfl
    · obtain ⟨t, tl, tm, xg, gn2, hD⟩ := hp
      refine ⟨mk [], D, t.map fun c => mk [c], rfl, rfl, .inl (.inl (.inl hD)), ?_, ?_⟩
      · rw [Bx.len_signs, List.length_map, mk_len]
        simp
        omega
      · rw [join_signs]
        exact q t H2 tl tm xg gn2
def sp__law_alphabet (K : PySem.W.Frag) : Sp := fun vs H Q _ => ∃ (g : Addr) (m n : Nat), vs = [.ref g, .int (m : Nat)] ∧ 1 ≤ m ∧ m ≤ 4 ∧ Gen H g n ∧ n ≤ 2 ^ 40 ∧
  ∀ (L : List Nat) H', Alph L → m ≤ L.length → Xg g H H' → Gen H' g (n + 60) → Q (tx L) H'
def abc : List Nat := [97, 98, 99, 100, 101, 102, 103, 104, 105, 106, 107, 108, 109, 110, 111, 112, 113, 114, 115, 116, 117, 118, 119, 120, 121, 122]
theorem abc_at (k : Nat) (h : k < 26) : abc[k]? = some (97 + k) := by
  have : ∀ k, k < 26 → abc[k]? = some (97 + k) := by decide +kernel
  exact this k h
theorem ok__law_alphabet (T : Tx K mg) : FnOk P w K mg base CX0 3 T.a__law_alphabet T.fd__law_alphabet ["_law_generator_here", "_law_least"] (sp__law_alphabet K) := by
  refine T.F__law_alphabet.ok sc__law_alphabet (fun vs H Q E h => ?_) (fun cdv A outer s H vs Q E hr h => ?_)
  · obtain ⟨_, _, _, rfl, _⟩ := h
    rfl
  · obtain ⟨g, m, n, rfl, m1, m4, gn, n1, q⟩ := h
    refine ⟨_, (pss_cons (ps_set (i := 2) sc__law_alphabet.nd rfl (by first | exact Or.inl rfl | exact Or.inr rfl) (pe_op op_add (pv 1) (pe_call (ok__law_random T) (hr.mono (by decide)) (by rfl) T.g__law_random T.F__law_random.kp (b__law_random T) .nil pass0 (pa_cons (pv 0) (pa_cons (pe_op op_sub pe_int (pv 1)) pa_nil))))) (pss_cons (ps_set (i := 3) sc__law_alphabet.nd rfl (by first | exact Or.inl rfl | exact Or.inr rfl) (pe_call (ok__law_random T) (hr.mono (by decide)) (by rfl) T.g__law_random T.F__law_random.kp (b__law_random T) .nil pass0 (pa_cons (pv 0) (pa_cons pe_int pa_nil)))) (pss_cons (ps_set (i := 4) sc__law_alphabet.nd rfl (by first | exact Or.inl rfl | exact Or.inr rfl) pe_str) (pss_cons (ps_for PassesOwn.never rfl (pi_range1 (by rfl) T.n_range (pa_cons (pv 2) pa_nil)) (pg_name (i := 5) sc__law_alphabet.nd rfl (by first | exact Or.inl rfl | exact Or.inr rfl)) (pss_cons (ps_set (i := 3) sc__law_alphabet.nd rfl (by first | exact Or.inl rfl | exact Or.inr rfl) (pe_op op_add (pe_op op_add (pv 3) pe_int) (pe_call (ok__law_random T) (hr.mono (by decide)) (by rfl) T.g__law_random T.F__law_random.kp (b__law_random T) .nil pass0 (pa_cons (pv 0) (pa_cons pe_int pa_nil))))) (pss_one (ps_set (i := 4) sc__law_alphabet.nd rfl (by first | exact Or.inl rfl | exact Or.inr rfl) (pe_op op_add_str (pv 4) (pe_ix ix_str pe_str (pv 3) (fun _ _ => rfl))))))) (pss_one (ps_ret (pv 4))))))), ?_⟩
    refine ⟨_, rfl, _, rfl, _, rfl, 5, _, rfl, rfl, g, _, n, rfl, by omega, by omega, gn, by omega, fun r H1 r0 r1 x1 g1 => ?_⟩
    refine ⟨_, _, rfl, rfl, ?_⟩
    refine ⟨_, rfl, g, 10, n + 10, rfl, by decide, by decide, g1, by omega, fun r2 H2 r20 r21 x2 g2 => ?_⟩
    -- the letters
    have hmany : ((m : Int) + r).toNat ≤ 4 := by omega
    have hmany1 : m ≤ ((m : Int) + r).toNat := by omega
    refine ⟨_, rfl, (m : Int) + r, rfl, by omega, by omega, ?_⟩
    generalize ((m : Int) + r).toNat = k at hmany hmany1
    refine for_range (lo := 0) (n := k) (fun i σ H3 => ∃ (st : Nat) (L : List Nat) (y5 : Option V), σ = [some (.ref g), some (.int (m : Nat)), some (.int ((m : Int) + r)), some (.int (st : Nat)), some (tx L), y5] ∧ st ≤ 9 + 3 * i ∧ L.length = i ∧ L.Pairwise (· < ·) ∧ (∀ c ∈ L, 97 ≤ c ∧ c ≤ 97 + st) ∧ Xg g H H3 ∧ Gen H3 g (n + 20 + 10 * i)) ⟨r2.toNat, [], none, ?_, by omega, rfl, List.Pairwise.nil, by simp, x1.trans x2, g2⟩ (fun i σ H3 hi hp => ?_) (fun σ H3 hp => ?_)
    · have e : ((r2.toNat : Nat) : Int) = r2 := by omega
      rw [e]
      rfl
    · obtain ⟨st, L, y5, rfl, s1, ll, lp, lm, x3, g3⟩ := hp
      refine ⟨_, rfl, _, 1, rfl, rfl, _, rfl, g, 3, n + 20 + 10 * i, rfl, by decide, by decide, g3, by omega, fun r3 H4 r30 r31 x4 g4 => ?_⟩
      refine ⟨_, _, rfl, rfl, ?_⟩
      have es : (st : Int) + 1 + r3 = ((st + 1 + r3.toNat : Nat) : Int) := by omega
      have sb : st + 1 + r3.toNat < 26 := by omega
      refine ⟨_, rfl, _, rfl, mk abc, _, 97 + (st + 1 + r3.toNat), by rfl, rfl, by decide, ?_, _, _, rfl, rfl, ?_, ?_⟩
      · rw [es]
        exact atI_nat (by rw [mk_list]; exact abc_at _ sb)
      · rw [mk_len]
        show _ + 1 ≤ _
        exact sz_of (by omega)
      · have ea : (⟨#[97 + (st + 1 + r3.toNat)]⟩ : Str) = mk [97 + (st + 1 + r3.toNat)] := rfl
        rw [ea, mk_app]
        refine ⟨st + 1 + r3.toNat, L ++ [97 + (st + 1 + r3.toNat)], _, by rw [← es]; rfl, by omega, by rw [List.length_append, ll]; rfl, ?_, fun c hc => ?_, x3.trans x4, g4⟩
        · rw [List.pairwise_append]
          refine ⟨lp, List.pairwise_singleton _ _, fun a ha b hb => ?_⟩
          rw [List.mem_singleton] at hb
          have := lm a ha
          omega
        · rcases List.mem_append.mp hc with e | e
          · have := lm c e
            omega
          · rw [List.mem_singleton] at e
            omega
    · obtain ⟨st, L, y5, rfl, s1, ll, lp, lm, x3, g3⟩ := hp
      refine ⟨_, rfl, q L H3 ⟨fun c hc => ?_, lp, by omega, by omega⟩ (by omega) x3 (g3.up (by omega))⟩
      have := lm c hc
      omega
end
end K04
set_option linter.all false
/-! Px2: every number has a text; the order of texts is that of their numbers -/
namespace Px
theorem num_onto {m : Nat} (hm : 1 ≤ m) : ∀ n : Nat, ∃ l : List Nat, (∀ i ∈ l, i < m) ∧ num m l 0 = n := by
  intro n
  induction n using Nat.strongRecOn with
  | _ n ih =>
    by_cases h : n = 0
    · exact ⟨[], fun i hi => by simp at hi, by rw [h]; rfl⟩
    · have hq : (n - 1) / m < n := Nat.lt_of_le_of_lt (Nat.div_le_self _ _) (by omega)
      obtain ⟨l, h1, h2⟩ := ih _ hq
      refine ⟨l ++ [(n - 1) % m], fun i hi => ?_, ?_⟩
      · rcases List.mem_append.mp hi with e | e
        · exact h1 i e
        · rw [List.mem_singleton.mp e]
          exact Nat.mod_lt _ (by omega)
      · rw [num_snoc, h2]
        have := Nat.div_add_mod (n - 1) m
        rw [Nat.mul_comm]
        omega
theorem less_mono (m : Nat) (hm : 1 ≤ m) : ∀ (j k : Nat), k ≤ j → less m k ≤ less m j
  | 0, k, h => by
    have : k = 0 := by omega
    rw [this]
    exact Nat.le_refl _
  | j + 1, k, h => by
    by_cases e : k = j + 1
    · rw [e]
      exact Nat.le_refl _
    · have ih := less_mono m hm j k (by omega)
      have : less m j * 1 ≤ less m j * m := Nat.mul_le_mul_left _ hm
      show less m k ≤ less m j * m + 1
      omega
theorem num_shift {m : Nat} : ∀ {l l' : List Nat} {f g : Nat}, l.length = l'.length → (∀ i ∈ l, i < m) → f < g → num m l f < num m l' g
  | [], [], f, g, _, _, h => h
  | [], _ :: _, _, _, e, _, _ => by simp at e
  | _ :: _, [], _, _, e, _, _ => by simp at e
  | i :: l, j :: l', f, g, e, hi, h => by
    refine num_shift (l := l) (l' := l') (by simpa using e) (fun k hk => hi k (List.mem_cons_of_mem _ hk)) ?_
    have h1 := hi i List.mem_cons_self
    have h2 : (f + 1) * m ≤ g * m := Nat.mul_le_mul_right m h
    rw [Nat.add_mul, Nat.one_mul] at h2
    omega
theorem num_lex {m : Nat} : ∀ {l l' : List Nat} (f : Nat), l.length = l'.length → (∀ i ∈ l, i < m) → l < l' → num m l f < num m l' f
  | [], [], _, _, _, h => by cases h
  | [], _ :: _, _, e, _, _ => by simp at e
  | _ :: _, [], _, e, _, _ => by simp at e
  | i :: l, j :: l', f, e, hi, h => by
    have e' : l.length = l'.length := by simpa using e
    have hi' : ∀ k ∈ l, k < m := fun k hk => hi k (List.mem_cons_of_mem _ hk)
    cases h with
    | rel h => exact num_shift (l := l) (l' := l') e' hi' (by omega)
    | cons h => exact num_lex (f * m + i + 1) e' hi' h
theorem num_longer {m : Nat} (hm : 1 ≤ m) {l l' : List Nat} (hi : ∀ i ∈ l, i < m) (h : l.length < l'.length) : num m l 0 < num m l' 0 := by
  have h1 := num_high m l 0 0 hi (by show 0 < 0 * m + 1; omega)
  have h2 := num_low m l' 0 0 (Nat.le_refl _)
  have h3 := less_mono m hm l'.length (l.length + 1) h
  rw [Nat.zero_add] at h1 h2
  omega
theorem lt_tri : ∀ (l l' : List Nat), l < l' ∨ l = l' ∨ l' < l
  | [], [] => .inr (.inl rfl)
  | [], _ :: _ => .inl List.Lex.nil
  | _ :: _, [] => .inr (.inr List.Lex.nil)
  | a :: l, b :: l' => by
    rcases Nat.lt_trichotomy a b with h | h | h
    · exact .inl (List.Lex.rel h)
    · subst h
      rcases lt_tri l l' with h | h | h
      · exact .inl (List.Lex.cons h)
      · exact .inr (.inl (by rw [h]))
      · exact .inr (.inr (List.Lex.cons h))
    · exact .inr (.inr (List.Lex.rel h))
/-- ahead: the smaller number -/
theorem num_order {m : Nat} (hm : 1 ≤ m) {l l' : List Nat} (hi : ∀ i ∈ l, i < m) (hi' : ∀ i ∈ l', i < m) : num m l 0 < num m l' 0 ↔ (l.length < l'.length ∨ (l.length = l'.length ∧ l < l')) := by
  constructor
  · intro h
    rcases Nat.lt_trichotomy l.length l'.length with e | e | e
    · exact .inl e
    · refine .inr ⟨e, ?_⟩
      rcases lt_tri l l' with z | z | z
      · exact z
      · rw [z] at h
        omega
      · have := num_lex 0 e.symm hi' z
        omega
    · have := num_longer hm hi' e
      omega
  · rintro (h | ⟨e, h⟩)
    · exact num_longer hm hi h
    · exact num_lex 0 e hi h
theorem num_inj {m : Nat} (hm : 1 ≤ m) {l l' : List Nat} (hi : ∀ i ∈ l, i < m) (hi' : ∀ i ∈ l', i < m) (h : num m l 0 = num m l' 0) : l = l' := by
  have h1 := (num_order hm hi hi').mpr
  have h2 := (num_order hm hi' hi).mpr
  rcases Nat.lt_trichotomy l.length l'.length with e | e | e
  · have := h1 (.inl e)
    omega
  · rcases lt_tri l l' with z | z | z
    · have := h1 (.inr ⟨e, z⟩)
      omega
    · exact z
    · have := h2 (.inr ⟨e.symm, z⟩)
      omega
  · have := h2 (.inl e)
    omega
/-- a text over L by its letters' places -/
def back (L : List Nat) (l : List Nat) : List Nat := l.map fun i => L.getD i 0
theorem back_mem {L l : List Nat} (h : ∀ i ∈ l, i < L.length) : ∀ c ∈ back L l, c ∈ L := fun c hc => by
  obtain ⟨i, hi, rfl⟩ := List.mem_map.mp hc
  rw [List.getD_eq_getElem?_getD, List.getElem?_eq_getElem (h i hi)]
  exact List.getElem_mem _
theorem ix_back {L l : List Nat} (nd : L.Nodup) (h : ∀ i ∈ l, i < L.length) : (back L l).map (fun c => L.idxOf c) = l := by
  unfold back
  rw [List.map_map]
  conv => rhs; rw [← List.map_id l]
  apply List.map_congr_left
  intro i hi
  show L.idxOf (L.getD i 0) = i
  have hlt := h i hi
  rw [List.getD_eq_getElem?_getD, List.getElem?_eq_getElem hlt]
  show L.idxOf L[i] = i
  have h1 : L[i] ∈ L := List.getElem_mem hlt
  have h2 := List.idxOf_lt_length_iff.mpr h1
  have h3 : L[L.idxOf L[i]]? = L[i]? := by
    rw [List.getElem?_eq_getElem h2, List.getElem_idxOf h2, List.getElem?_eq_getElem hlt]
  exact (List.getElem?_inj h2 nd).mp h3
end Px
set_option Elab.async false
set_option linter.all false
set_option maxRecDepth 100000
set_option maxHeartbeats 4000000
namespace Bx
open PySem PySem.Spec PyProof.Rows L2 Evl
theorem fold_rep (a : List Nat) : ∀ (k : Nat) (acc : Array Nat), (List.replicate k a.toArray).foldl (· ++ ·) acc = (acc.toList ++ (List.replicate k a).flatten).toArray
  | 0, acc => by simp
  | k + 1, acc => by
    rw [List.replicate_succ, List.foldl_cons, fold_rep a k, List.replicate_succ, List.flatten_cons]
    simp
theorem mul_mk (l : List Nat) (k : Nat) : Txt.mul (mk l) (k : Nat) = mk (List.replicate k l).flatten := by
  unfold Txt.mul
  by_cases h : (k : Int) < 1
  · have e : k = 0 := by omega
    subst e
    rfl
  · rw [if_neg h]
    split
    · rename_i c
      rw [Bool.or_eq_true, beq_iff_eq, beq_iff_eq] at c
      rcases c with c | c
      · have e : k = 1 := by omega
        subst e
        simp
      · have e : l = [] := List.eq_nil_of_length_eq_zero (by rw [mk_len] at c; exact c)
        subst e
        have : ∀ k, (List.replicate k ([] : List Nat)).flatten = [] := by
          intro k
          induction k with
          | zero => rfl
          | succ k ih => rw [List.replicate_succ, List.flatten_cons, ih]; rfl
        rw [this]
    · rw [Int.toNat_natCast, fold_rep]
      rfl
/-- x * k of a text -/
def rRepS : R2 := fun x y H Q => ∃ (l : List Nat) (k : Nat), x = tx l ∧ y = .int (k : Nat) ∧ l.length * k ≤ 100000 ∧ k ≤ 100000 ∧ Q (tx (List.replicate k l).flatten) H
theorem op_repS {X : Cx} : OpR X (binaryOp .Mult) rRepS := by
  intro pins s σ H x y v u Q I rx ry h
  obtain ⟨l, k, rfl, rfl, h1, h2, q⟩ := h
  obtain ⟨t, rfl⟩ := rx
  obtain ⟨t', rfl⟩ := ry
  have ok : MulOk (mk l) (k : Nat) := by
    refine ⟨?_, fun a b => ?_, fun a b => ?_⟩
    · rw [decide_eq_false (by omega), decide_eq_false (by omega)]
      rfl
    · rw [mk_len]
      have hp : (0 : Int) < (k : Nat) := by omega
      have q1 : ((l.length : Int)) * (k : Nat) ≤ 2 ^ 63 - 1 := by
        have : ((l.length * k : Nat) : Int) ≤ 100000 := by omega
        rw [Int.natCast_mul] at this
        omega
      have := Int.le_ediv_of_mul_le hp q1
      omega
    · rw [mk_len, Int.toNat_natCast]
      show decide (_ > sizeLine) = false
      refine decide_eq_false ?_
      have : sizeLine ≥ 100000 := by decide
      omega
  refine SB.mul ok fun t2 k2 => ⟨.str (Txt.mul (mk l) (k : Nat)), H, I.tok _, ⟨t2, rfl⟩, ?_⟩
  rw [mul_mk]
  exact q
/-- the last places of a text, whether or not it has any -/
theorem cut_last (u : List Nat) : cutS (mk u) (some ((u.length : Int) - 1)) none = mk (u.drop (u.length - 1)) := by
  by_cases h : u = []
  · subst h
    rfl
  · have hl := List.length_pos_iff.mpr h
    have e : (u.length : Int) - 1 = ((u.length - 1 : Nat) : Int) := by omega
    rw [e, cut_from]
theorem cut_init (u : List Nat) : cutS (mk u) none (some ((u.length : Int) - 1)) = mk (u.take (u.length - 1)) := by
  by_cases h : u = []
  · subst h
    rfl
  · have hl := List.length_pos_iff.mpr h
    have e : (u.length : Int) - 1 = ((u.length - 1 : Nat) : Int) := by omega
    rw [e, cut_to]
theorem rep_two (c : Nat) : (List.replicate 2 [c]).flatten = [c, c] := rfl
end Bx
namespace Bx
open PySem PySem.Spec PyProof.Rows L2 Evl
/-- all but one object as before, and that one still there -/
def Xh (g : Addr) (H H' : Hp) : Prop := Xg g H H' ∧ H' g ≠ none
theorem Xh.ex {g : Addr} {H H1 H2 : Hp} (a : Xh g H H1) (b : Ex H1 H2) : Xh g H H2 := ⟨a.1.ex b, fun z => by
  cases q : H1 g with
  | none => exact a.2 q
  | some o =>
    rw [b g o q] at z
    cases z⟩
theorem Xh.mut {g : Addr} {H H' : Hp} {p : Addr} {o : HO} (e : Xh g H H') (h : H p = none) : Xh g H (L2.upd H' p o) := ⟨e.1.mut h, fun z => by
  by_cases q : g = p
  · rw [q, upd_same] at z
    cases z
  · rw [upd_ne q] at z
    exact e.2 z⟩
theorem Xh.fresh {g : Addr} {H H' : Hp} (e : Xh g H H') {p : Addr} (h : H' p = none) : H p = none := e.1.fresh e.2 h
theorem Xg.gen {g : Addr} {H H' : Hp} {n : Nat} (e : Xg g H H') (h : Gen H' g n) : Xh g H H' := ⟨e, h.there⟩
end Bx
set_option Elab.async false
set_option linter.all false
set_option maxRecDepth 100000
set_option maxHeartbeats 8000000
namespace K04
open PySem PySem.Spec PyProof.Rows L2 Evl Bx
open Px Lx Rx
def perm2 {α : Type} : List α → List α → List α
  | [], [a, b] => [b, a]
  | _, _ => []
theorem rel2 {vs : List V} {us : List Value} {zs : List V} {ws : List Value} (r : Vals vs us) (rz : Vals zs ws) : Vals (perm2 vs zs) (perm2 us ws) := by
  cases r with
  | nil =>
    cases rz with
    | nil => exact .nil
    | cons r1 rz =>
      cases rz with
      | nil => exact .nil
      | cons r2 rz =>
        cases rz with
        | nil => exact .cons r2 (.cons r1 .nil)
        | cons r3 rz => exact .nil
  | cons r1 r => exact .nil
theorem idx_lt {L : List Nat} (up : L.Pairwise (· < ·)) {c d : Nat} (hc : c ∈ L) (hd : d ∈ L) : c < d ↔ L.idxOf c < L.idxOf d := by
  have h1 := List.idxOf_lt_length_iff.mpr hc
  have h2 := List.idxOf_lt_length_iff.mpr hd
  have e1 : L[L.idxOf c] = c := List.getElem_idxOf h1
  have e2 : L[L.idxOf d] = d := List.getElem_idxOf h2
  have key := List.pairwise_iff_getElem.mp up
  constructor
  · intro h
    rcases Nat.lt_trichotomy (L.idxOf c) (L.idxOf d) with z | z | z
    · exact z
    · exfalso
      have : c = d := by rw [← e1, ← e2]; congr 1
      omega
    · have := key _ _ h2 h1 z
      omega
  · intro h
    have := key _ _ h1 h2 h
    omega
theorem ix_lex {L : List Nat} (up : L.Pairwise (· < ·)) : ∀ {a b : List Nat}, (∀ c ∈ a, c ∈ L) → (∀ c ∈ b, c ∈ L) → a < b → ixs L a < ixs L b
  | [], [], _, _, h => by cases h
  | [], _ :: _, _, _, _ => List.Lex.nil
  | _ :: _, [], _, _, h => by cases h
  | c :: a, d :: b, ha, hb, h => by
    show L.idxOf c :: ixs L a < L.idxOf d :: ixs L b
    cases h with
    | rel h => exact List.Lex.rel ((idx_lt up (ha c List.mem_cons_self) (hb d List.mem_cons_self)).mp h)
    | cons h => exact List.Lex.cons (ix_lex up (fun x hx => ha x (List.mem_cons_of_mem _ hx)) (fun x hx => hb x (List.mem_cons_of_mem _ hx)) h)
theorem ixs_len (L t : List Nat) : (ixs L t).length = t.length := by unfold ixs; rw [List.length_map]
/-- the order of texts is that of their numbers -/
theorem ahead_num {L a b : List Nat} (aL : Alph L) (ha : ∀ c ∈ a, c ∈ L) (hb : ∀ c ∈ b, c ∈ L) : Rx.ahead (mk a) (mk b) = decide (num L.length (ixs L a) 0 < num L.length (ixs L b) 0) := by
  have o := num_order (m := L.length) aL.one (ixs_lt ha) (ixs_lt hb)
  rw [ixs_len, ixs_len] at o
  unfold Rx.ahead
  rw [mk_len, mk_len, mk_list, mk_list]
  by_cases e : a.length = b.length
  · rw [if_pos (by rw [e])]
    by_cases h : a < b
    · rw [decide_eq_true h, decide_eq_true (o.mpr (.inr ⟨e, ix_lex aL.up ha hb h⟩))]
    · rw [decide_eq_false h]
      refine (decide_eq_false fun z => ?_).symm
      rcases o.mp z with z | ⟨_, z⟩
      · omega
      · rcases lt_tri a b with y | y | y
        · exact h y
        · rw [y] at z
          exact List.lt_irrefl _ z
        · have := ix_lex aL.up hb ha y
          exact List.lt_irrefl _ (List.lt_trans z this)
  · rw [if_neg (by omega)]
    by_cases h : a.length < b.length
    · rw [decide_eq_true (by omega), decide_eq_true (o.mpr (.inl h))]
    · rw [decide_eq_false (by omega)]
      refine (decide_eq_false fun z => ?_).symm
      rcases o.mp z with z | ⟨z, _⟩
      · exact h z
      · exact e z
/-- a text beside a text -/
theorem beside {L t : List Nat} (aL : Alph L) (ct : ∀ c ∈ t, c ∈ L) (n' : Nat) (h : n' ≤ num L.length (ixs L t) 0 + 1) : ∃ t' : List Nat, (∀ c ∈ t', c ∈ L) ∧ num L.length (ixs L t') 0 = n' ∧ t'.length ≤ t.length + 1 ∧ (n' ≤ num L.length (ixs L t) 0 → t'.length ≤ t.length) := by
  obtain ⟨l, h1, h2⟩ := num_onto aL.one n'
  have e : ixs L (back L l) = l := ix_back (lt_nodup aL.up) h1
  have len : (back L l).length = l.length := by unfold back; rw [List.length_map]
  have key : ∀ k, (ixs L t).length + k < l.length → n' ≤ num L.length (ixs L t) 0 + k → False := by
    intro k
    induction k with
    | zero =>
      intro hk hn
      have := num_longer aL.one (ixs_lt ct) (show (ixs L t).length < l.length by omega)
      omega
    | succ k ih =>
      intro hk hn
      -- the numbers of longer texts are greater by at least so many
      have a1 := num_high L.length (ixs L t) 0 0 (ixs_lt ct) (by show 0 < 0 * L.length + 1; omega)
      have a2 := num_low L.length l 0 0 (Nat.le_refl _)
      rw [Nat.zero_add] at a1 a2
      have grow : ∀ j, less L.length ((ixs L t).length + 1) + j ≤ less L.length ((ixs L t).length + 1 + j) := by
        intro j
        induction j with
        | zero => exact Nat.le_refl _
        | succ j ih =>
          have : less L.length ((ixs L t).length + 1 + j) * 1 ≤ less L.length ((ixs L t).length + 1 + j) * L.length := Nat.mul_le_mul_left _ aL.one
          show _ ≤ less L.length ((ixs L t).length + 1 + j) * L.length + 1
          omega
      have g := grow (k + 1)
      have m3 := less_mono L.length aL.one l.length ((ixs L t).length + 1 + (k + 1)) (by omega)
      omega
  refine ⟨back L l, back_mem h1, by rw [e]; exact h2, ?_, fun hn => ?_⟩
  · rw [len, ← ixs_len L t]
    apply Decidable.byContradiction
    intro z
    exact key 1 (by omega) h
  · rw [len, ← ixs_len L t]
    apply Decidable.byContradiction
    intro z
    exact key 0 (by omega) (by omega)
section
variable {P : Program} {w : World} {K : PySem.W.Frag} {mg : Str → Option Value} {base : Heap}
theorem kb_text_numbered_0_number_letters (T : Tx K mg) : KBinds K T.fd_text_numbered ["letters", "number"] ["number", "letters"] perm2 perm2 := by
  obtain ⟨oc, od, kV, doc, pm, an, cdv, ct, osl, hfd, lk, hcd⟩ := T.F_text_numbered.ex
  refine ⟨fun s us ws _ hl => ?_, rel2⟩
  rw [hfd]
  match us, ws, hl with
  | [], [a, b], _ => exact .of_eq rfl
theorem kb_text_number_0_text_letters (T : Tx K mg) : KBinds K T.fd_text_number ["letters", "text"] ["text", "letters"] perm2 perm2 := by
  obtain ⟨oc, od, kV, doc, pm, an, cdv, ct, osl, hfd, lk, hcd⟩ := T.F_text_number.ex
  refine ⟨fun s us ws _ hl => ?_, rel2⟩
  rw [hfd]
  match us, ws, hl with
  | [], [a, b], _ => exact .of_eq rfl
def sp_yes (K : PySem.W.Frag) : Sp := fun vs H Q _ => ∃ a : Bool, vs = [.bl a, .bl a] ∧ Q (.bl true) H
theorem ok__law_yes (T : Tx K mg) : FnOk P w K mg base CX0 1 T.a__law_yes T.fd__law_yes ["_law_told", "_law_due"] (sp_yes K) := by
  refine T.F__law_yes.ok sc__law_yes (fun vs H Q E h => ?_) (fun cdv A outer s H vs Q E hr h => ?_)
  · obtain ⟨_, rfl, _⟩ := h
    rfl
  · obtain ⟨a, rfl, q⟩ := h
    refine ⟨_, (pss_one (ps_ret (pe_and (pe_callB call_isi (by rfl) T.n_isinstance (by decide +kernel) (pa_cons (pv 0) (pa_cons (pe_bltn (v := .ty "bool") (u := .type "bool") (by rfl) T.n_bool (by decide +kernel) rfl) pa_nil))) (pe_one (pe_cmpR op_eq (pv 0) (pv 1) (nomark _)))))), ?_⟩
    refine ⟨_, rfl, _, _, .type "bool", _, true, rfl, .ty _, .base (.bl _), kit_ty (by decide +kernel), true, rfl, iteT ?_⟩
    refine ⟨_, rfl, _, rfl, rfl, ?_⟩
    rw [eq_same rfl]
    exact q
end
end K04
set_option Elab.async false
set_option linter.all false
set_option maxRecDepth 100000
set_option maxHeartbeats 8000000
namespace K04
open PySem PySem.Spec PyProof.Rows L2 Evl Bx
open Px Lx Rx
section
variable {P : Program} {w : World} {K : PySem.W.Frag} {mg : Str → Option Value} {base : Heap}
def sp_far (K : PySem.W.Frag) : Sp := fun vs H Q _ => ∃ (g : Addr) (L : List Nat) (n : Nat), vs = [.ref g, tx L] ∧ Alph L ∧ Gen H g n ∧ n ≤ 2 ^ 30 ∧ ∀ H', Xg g H H' → Gen H' g (n + 10000) → Q (.bl true) H'
theorem ok__law_far_right (T : Tx K mg) : FnOk P w K mg base CX0 5 T.a__law_far_right T.fd__law_far_right ["_law_generator_here", "_law_letters"] (sp_far K) := by
  refine T.F__law_far_right.ok sc__law_far_right (fun vs H Q E h => ?_) (fun cdv A outer s H vs Q E hr h => ?_)
  · obtain ⟨_, _, _, rfl, _⟩ := h
    rfl
  · obtain ⟨g, L, n, rfl, aL, gn, n1, q⟩ := h
    refine ⟨_, (pss_cons (ps_for PassesOwn.never rfl (pi_range1 (by rfl) T.n_range (pa_cons pe_int pa_nil)) (pg_name (i := 2) sc__law_far_right.nd rfl (by first | exact Or.inl rfl | exact Or.inr rfl)) (pss_cons (ps_set (i := 3) sc__law_far_right.nd rfl (by first | exact Or.inl rfl | exact Or.inr rfl) (pe_call (ok__law_text T) (hr.mono (by decide)) (by rfl) T.g__law_text T.F__law_text.kp (b__law_text T) .nil pass0 (pa_cons (pv 0) (pa_cons (pv 1) (pa_cons (pe_op op_add pe_int (pe_call (ok__law_random T) (hr.mono (by decide)) (by rfl) T.g__law_random T.F__law_random.kp (b__law_random T) .nil pass0 (pa_cons (pv 0) (pa_cons pe_int pa_nil)))) pa_nil))))) (pss_cons (ps_set (i := 4) sc__law_far_right.nd rfl (by first | exact Or.inl rfl | exact Or.inr rfl) (pe_call (ok_text_number T) (hr.mono (by decide)) (by rfl) T.g_text_number T.F_text_number.kp (b_text_number T) .nil pass0 (pa_cons (pv 1) (pa_cons (pv 3) pa_nil)))) (pss_cons (ps_if (PW.pt (pw_or (pt_cmpR op_ne (pe_call (ok_text_numbered T) (hr.mono (by decide)) (by rfl) T.g_text_numbered T.F_text_numbered.kp (b_text_numbered T) .nil pass0 (pa_cons (pv 1) (pa_cons (pv 4) pa_nil))) (pv 3) (nomark _)) (pw_or1 (pt_cmpR op_ne (pe_callK0 (ok_text_numbered T) (hr.mono (by decide)) (by rfl) T.g_text_numbered T.F_text_numbered.kp (kb_text_numbered_0_number_letters T) pass0 (pk_cons (pv 4) (pk_cons (pv 1) pk_nil))) (pv 3) (nomark _))))) (pss_one (ps_ret pe_bl)) pss_nil) (pss_cons (ps_set (i := 5) sc__law_far_right.nd rfl (by first | exact Or.inl rfl | exact Or.inr rfl) (pe_ifExp (pt_cmpR op_lt (pe_callB call_len_str (by rfl) T.n_len (by decide +kernel) (pa_cons (pv 3) pa_nil)) pe_int (nomark _)) (pe_call (ok_text_numbered T) (hr.mono (by decide)) (by rfl) T.g_text_numbered T.F_text_numbered.kp (b_text_numbered T) .nil pass0 (pa_cons (pv 1) (pa_cons (pe_op op_add (pv 4) pe_int) pa_nil))) (pe_call (ok_text_numbered T) (hr.mono (by decide)) (by rfl) T.g_text_numbered T.F_text_numbered.kp (b_text_numbered T) .nil pass0 (pa_cons (pv 1) (pa_cons (pe_op op_sub (pv 4) pe_int) pa_nil))))) (pss_cons (ps_if (pt_not (pt_val (pe_call (ok__law_yes T) (hr.mono (by decide)) (by rfl) T.g__law_yes T.F__law_yes.kp (b__law_yes T) .nil pass0 (pa_cons (pe_call (ok_is_ahead T) (hr.mono (by decide)) (by rfl) T.g_is_ahead T.F_is_ahead.kp (b_is_ahead T) .nil pass0 (pa_cons (pv 3) (pa_cons (pv 5) pa_nil))) (pa_cons (pe_cmpR op_lt (pe_callB call_len_str (by rfl) T.n_len (by decide +kernel) (pa_cons (pv 3) pa_nil)) pe_int (nomark _)) pa_nil))))) (pss_one (ps_ret pe_bl)) pss_nil) (pss_cons (ps_if (pt_not (pt_val (pe_call (ok__law_yes T) (hr.mono (by decide)) (by rfl) T.g__law_yes T.F__law_yes.kp (b__law_yes T) .nil pass0 (pa_cons (pe_call (ok_is_ahead T) (hr.mono (by decide)) (by rfl) T.g_is_ahead T.F_is_ahead.kp (b_is_ahead T) .nil pass0 (pa_cons (pv 5) (pa_cons (pv 3) pa_nil))) (pa_cons (pe_cmpR op_eq (pe_callB call_len_str (by rfl) T.n_len (by decide +kernel) (pa_cons (pv 3) pa_nil)) pe_int (nomark _)) pa_nil))))) (pss_one (ps_ret pe_bl)) pss_nil) (pss_one (ps_if (pt_cmpR op_ne (pe_callK0 (ok_text_number T) (hr.mono (by decide)) (by rfl) T.g_text_number T.F_text_number.kp (kb_text_number_0_text_letters T) pass0 (pk_cons (pv 5) (pk_cons (pv 1) pk_nil))) (pe_op op_sub (pe_op op_add (pv 4) pe_int) (pe_op op_mulW pe_int (pe_callTy call_int1 (by rfl) T.n_int (by decide +kernel) (pa_cons (pe_cmpR op_eq (pe_callB call_len_str (by rfl) T.n_len (by decide +kernel) (pa_cons (pv 3) pa_nil)) pe_int (nomark _)) pa_nil)))) (nomark _)) (pss_one (ps_ret pe_bl)) pss_nil))))))))) (pss_one (ps_ret pe_bl))), ?_⟩
    have l4 := aL.four
    have l1 := aL.one
    refine ⟨3, rfl, by decide, by decide, for_range (lo := 0) (n := 3) (fun i σ' H' => ∃ y2 y3 y4 y5, σ' = [some (.ref g), some (tx L), y2, y3, y4, y5] ∧ Xg g H H' ∧ Gen H' g (n + 3100 * i)) ⟨_, _, _, _, rfl, Xg.refl g H, gn⟩ (fun i σ' H' hi hp => ?_) (fun σ' H' hp => ?_)⟩
    · obtain ⟨y2, y3, y4, y5, rfl, a1, a2⟩ := hp
      refine ⟨_, rfl, _, rfl, _, rfl, g, 300, _, rfl, by decide, by decide, a2, by omega, fun r H5 r0 r1 x5 g5 => ?_⟩
      obtain ⟨m, rfl⟩ := Int.eq_ofNat_of_zero_le r0
      refine ⟨_, _, rfl, rfl, g, L, 1 + m, _, rfl, l1, by omega, by omega, g5, by omega, fun t H6 lt ct x6 g6 => ?_⟩
      have lt3 : t.length ≤ 300 := by omega
      have low : ∀ s : List Nat, (∀ c ∈ s, c ∈ L) → Low s := fun s h c hc => aL.low c (h c hc)
      have lmk : (mk t).length ≤ sizeLine := by rw [mk_len]; exact sz_of (by omega)
      refine ⟨_, rfl, _, rfl, L, t, rfl, aL, ct, lt3, fun H7 e7 => ?_⟩
      refine ⟨_, rfl, _, rfl, L, t, rfl, aL, ct, lt3, fun H8 e8 => ⟨_, rfl, rfl, false, ne_same rfl, iteF ?_⟩⟩
      refine ⟨_, rfl, _, rfl, L, t, rfl, aL, ct, lt3, fun H9 e9 => ⟨_, rfl, rfl, false, ne_same rfl, iteF ?_⟩⟩
      have pos : 0 < num L.length (ixs L t) 0 := num_pos _ _ (.inr (fun z => by
        have := congrArg List.length z
        rw [ixs_len, List.length_nil] at this
        omega))
      -- the text beside
      obtain ⟨t', c', e', b1, b2⟩ := beside aL ct (if t.length < 300 then num L.length (ixs L t) 0 + 1 else num L.length (ixs L t) 0 - 1) (by split <;> omega)
      have lt' : t'.length ≤ 300 := by
        by_cases h : t.length < 300
        · omega
        · rw [if_neg h] at b2
          have := b2 (by omega)
          omega
      dsimp only [tNext]
      refine q_asg (v := tx t') (fun Ha ea Qa qa => ?_) fun Hb eb => ?_
      · refine ⟨_, rfl, mk t, rfl, lmk, _, 300, rfl, rfl, _, rfl, ?_⟩
        rw [mk_len]
        by_cases h : t.length < 300
        · rw [decide_eq_true (by omega : ((t.length : Nat) : Int) < 300)]
          rw [if_pos h] at e'
          exact iteT ⟨_, rfl, _, rfl, _, 1, rfl, rfl, L, t', by rw [e']; rfl, aL, c', lt', fun H10 e10 => qa H10 e10⟩
        · rw [decide_eq_false (by omega : ¬ ((t.length : Nat) : Int) < 300)]
          rw [if_neg h] at e'
          refine iteF ⟨_, rfl, _, rfl, _, 1, rfl, rfl, L, t', ?_, aL, c', lt', fun H10 e10 => qa H10 e10⟩
          rw [e']
          have : ((num L.length (ixs L t) 0 : Nat) : Int) - 1 = ((num L.length (ixs L t) 0 - 1 : Nat) : Int) := by omega
          show [tx L, V.int (((num L.length (ixs L t) 0 : Nat) : Int) - 1)] = _
          rw [this]
      · have n1' := ahead_num aL ct c'
        have n2' := ahead_num aL c' ct
        refine ⟨_, rfl, _, rfl, t, t', rfl, low t ct, low t' c', by omega, by omega, fun H10 e10 => ?_⟩
        refine ⟨_, rfl, mk t, rfl, lmk, _, 300, rfl, rfl, decide (((t.length : Nat) : Int) < 300), ?_, true, rfl, iteF ?_⟩
        · rw [n1', mk_len]
          have : decide (num L.length (ixs L t) 0 < num L.length (ixs L t') 0) = decide (((t.length : Nat) : Int) < 300) := by
            rw [e']
            by_cases h : t.length < 300
            · rw [if_pos h, decide_eq_true (by omega), decide_eq_true (by omega)]
            · rw [if_neg h, decide_eq_false (by omega), decide_eq_false (by omega)]
          rw [this]
          rfl
        refine ⟨_, rfl, _, rfl, t', t, rfl, low t' c', low t ct, by omega, by omega, fun H11 e11 => ?_⟩
        refine ⟨_, rfl, mk t, rfl, lmk, rfl, decide (V.int (((mk t).length : Nat) : Int) = V.int 300), ?_, true, rfl, iteF ?_⟩
        · rw [n2', mk_len]
          have : decide (num L.length (ixs L t') 0 < num L.length (ixs L t) 0) = decide (V.int ((t.length : Nat) : Int) = V.int 300) := by
            rw [e']
            by_cases h : t.length < 300
            · rw [if_pos h, decide_eq_false (by omega), decide_eq_false (fun z => by have := V.int.inj z; omega)]
            · have : t.length = 300 := by omega
              rw [if_neg h, decide_eq_true (by omega), decide_eq_true (by rw [this]; rfl)]
          rw [this]
          rfl
        refine ⟨_, rfl, _, rfl, L, t', rfl, aL, c', lt', fun H12 e12 => ?_⟩
        refine ⟨_, rfl, _, 1, rfl, rfl, _, rfl, mk t, rfl, lmk, rfl, .inr ⟨_, rfl, _, _, rfl, rfl, ?_, _, _, rfl, rfl, rfl, false, ?_, iteF ?_⟩⟩
        · refine mul_ok (small_abs (by decide)) ?_
          split
          · exact small_abs (by decide)
          · exact small_abs (by decide)
        · refine ne_same ?_
          rw [mk_len, e']
          by_cases h : t.length < 300
          · rw [if_pos h, decide_eq_false (fun z => by have := V.int.inj z; omega)]
            show V.int _ = V.int (((num L.length (ixs L t) 0 : Nat) : Int) + 1 - 2 * 0)
            exact congrArg V.int (by omega)
          · have h3 : t.length = 300 := by omega
            rw [if_neg h, decide_eq_true (by rw [h3]; rfl)]
            show V.int _ = V.int (((num L.length (ixs L t) 0 : Nat) : Int) + 1 - 2 * 1)
            exact congrArg V.int (by omega)
        · refine ⟨_, _, _, _, rfl, ((a1.trans x5).trans x6).ex (e7.trans (e8.trans (e9.trans (eb.trans (e10.trans (e11.trans e12)))))), ?_⟩
          exact (g6.ex (e7.trans (e8.trans (e9.trans (eb.trans (e10.trans (e11.trans e12))))))).up (by omega)
    · obtain ⟨y2, y3, y4, y5, rfl, a1, a2⟩ := hp
      exact q _ a1 (a2.up (by omega))
end
end K04
set_option Elab.async false
set_option linter.all false
set_option maxRecDepth 100000
set_option maxHeartbeats 8000000
namespace K04
open PySem PySem.Spec PyProof.Rows L2 Evl Bx
open Px Lx Rx
section
variable {P : Program} {w : World} {K : PySem.W.Frag} {mg : Str → Option Value} {base : Heap}
theorem kb_is_ahead_0_other_one (T : Tx K mg) : KBinds K T.fd_is_ahead ["one", "other"] ["other", "one"] perm2 perm2 := by
  obtain ⟨oc, od, kV, doc, pm, an, cdv, ct, osl, hfd, lk, hcd⟩ := T.F_is_ahead.ex
  refine ⟨fun s us ws _ hl => ?_, rel2⟩
  rw [hfd]
  match us, ws, hl with
  | [], [a, b], _ => exact .of_eq rfl
def sp_pairs (K : PySem.W.Frag) : Sp := fun vs H Q _ => ∃ (g : Addr) (L : List Nat) (n : Nat), vs = [.ref g, tx L] ∧ Alph L ∧ Gen H g n ∧ n ≤ 2 ^ 30 ∧ ∀ H', Xg g H H' → Gen H' g (n + 300) → Q (.bl true) H'
theorem ok__law_pairs_right (T : Tx K mg) : FnOk P w K mg base CX0 4 T.a__law_pairs_right T.fd__law_pairs_right ["_law_generator_here", "_law_letters"] (sp_pairs K) := by
  refine T.F__law_pairs_right.ok sc__law_pairs_right (fun vs H Q E h => ?_) (fun cdv A outer s H vs Q E hr h => ?_)
  · obtain ⟨_, _, _, rfl, _⟩ := h
    rfl
  · obtain ⟨g, L, n, rfl, aL, gn, n1, q⟩ := h
    refine ⟨_, (pss_cons (ps_setLc (i := 2) (own := [("_law_turn", 3)]) (g := (gName 3)) (tt := tYes) (by rfl) sc__law_pairs_right.nd rfl rfl (sw_true rfl rfl rfl (by decide +kernel)) (pi_range1 (by rfl) T.n_range (pa_cons pe_int pa_nil)) (blkOk_by (own := [("_law_turn", 3)]) (N := N__law_pairs_right) (sc := defScope s__law_pairs_right) (by decide +kernel)) (fun _ _ _ _ _ => (pg_name (i := 3) sc__law_pairs_right.nd rfl (by first | exact Or.inl rfl | exact Or.inr rfl))) (fun _ _ _ _ _ => pts_nil) (fun _ _ _ _ _ => (pe_call (ok__law_text T) (hr.mono (by decide)) (by rfl) T.g__law_text T.F__law_text.kp (b__law_text T) .nil pass0 (pa_cons (pv 0) (pa_cons (pe_op op_add_str (pv 1) pe_str) (pa_cons (pe_call (ok__law_random T) (hr.mono (by decide)) (by rfl) T.g__law_random T.F__law_random.kp (b__law_random T) .nil pass0 (pa_cons (pv 0) (pa_cons pe_int pa_nil))) pa_nil)))))) (pss_cons (ps_for PassesOwn.never rfl (pi_list (pv 2)) (pg_name (i := 4) sc__law_pairs_right.nd rfl (by first | exact Or.inl rfl | exact Or.inr rfl)) (pss_one (ps_for PassesOwn.never rfl (pi_list (pv 2)) (pg_name (i := 5) sc__law_pairs_right.nd rfl (by first | exact Or.inl rfl | exact Or.inr rfl)) (pss_one (ps_if (pt_not (pt_val (pe_call (ok__law_yes T) (hr.mono (by decide)) (by rfl) T.g__law_yes T.F__law_yes.kp (b__law_yes T) .nil pass0 (pa_cons (pe_callK0 (ok_is_ahead T) (hr.mono (by decide)) (by rfl) T.g_is_ahead T.F_is_ahead.kp (kb_is_ahead_0_other_one T) pass0 (pk_cons (pv 5) (pk_cons (pv 4) pk_nil))) (pa_cons (pe_cmpR (Rx.op_ltD hr.units) (pe_tup (pa_cons (pe_callB call_len_str (by rfl) T.n_len (by decide +kernel) (pa_cons (pv 4) pa_nil)) (pa_cons (pv 4) pa_nil))) (pe_tup (pa_cons (pe_callB call_len_str (by rfl) T.n_len (by decide +kernel) (pa_cons (pv 5) pa_nil)) (pa_cons (pv 5) pa_nil))) (nomark _)) pa_nil))))) (pss_one (ps_ret pe_bl)) pss_nil))))) (pss_one (ps_ret pe_bl)))), ?_⟩
    have l4 := aL.four
    have l1 := aL.one
    have lowz : Low (L ++ [122]) := aL.low.app (fun c hc => by
      rw [List.mem_singleton.mp hc]
      decide)
    refine ⟨6, rfl, by decide, by decide, fun D nD => ?_⟩
    have gD : g ≠ D := gn.ne nD
    refine lc_range (lo := 0) (n := 6) (fun i H2 => ∃ ts : List (List Nat), ts.length = i ∧ (∀ t ∈ ts, Low t ∧ t.length ≤ 3) ∧ Xg g H H2 ∧ Gen H2 g (n + 40 * i) ∧ H2 D = some (.lst (ts.map tx))) ⟨[], rfl, by simp, Xg.of (Ex.new nD), gn.oth gD, upd_same⟩ (fun i H2 hi hp => ?_) (fun H2 hp => ?_)
    · obtain ⟨ts, tl, tm, xg, g2, hD⟩ := hp
      refine ⟨rfl, ?_⟩
      refine ⟨_, rfl, _, rfl, mk L, mk [122], rfl, by rfl, by rw [mk_len, mk_len]; exact sz_of (by show _ + 1 ≤ _; omega), ?_⟩
      rw [mk_app]
      refine ⟨_, rfl, g, 4, _, rfl, by decide, by decide, g2, by omega, fun r H3 r0 r1 x3 g3 => ?_⟩
      obtain ⟨m, rfl⟩ := Int.eq_ofNat_of_zero_le r0
      refine ⟨g, L ++ [122], m, _, rfl, by rw [List.length_append]; omega, by rw [List.length_append]; show _ + 1 ≤ _; omega, by omega, g3, by omega, fun t H4 lt ct x4 g4 => ?_⟩
      have hD4 := x4 D _ gD.symm (x3 D _ gD.symm hD)
      refine ⟨_, hD4, by rw [List.length_map, tl]; exact sz_lt (by omega), ts ++ [t], by rw [List.length_append, tl]; rfl, fun u hu => ?_, ((xg.trans x3).trans x4).mut nD, (g4.up (by omega)).oth gD, ?_⟩
      · rcases List.mem_append.mp hu with e | e
        · exact tm u e
        · rw [List.mem_singleton.mp e]
          exact ⟨fun c hc => lowz c (ct c hc), by omega⟩
      · rw [upd_same, List.map_append]
        rfl
    · obtain ⟨ts, tl, tm, xg, g2, hD⟩ := hp
      refine ⟨_, rfl, D, rfl, ⟨_, .inl (.inl hD)⟩, ?_⟩
      refine for_list (xs := ts.map tx) (fun i σ' H' => ∃ y3 y4 y5, σ' = [some (.ref g), some (tx L), some (.ref D), y3, y4, y5] ∧ Ex H2 H') ⟨_, _, _, rfl, Ex.refl H2⟩ (fun i σ' H' _ ⟨_, _, _, _, e⟩ => .inl (.inl (e _ _ hD))) (fun i x σ' H' hx hp => ?_) (fun σ' H' hp => ?_)
      · obtain ⟨y3, y4, y5, rfl, a1⟩ := hp
        rw [List.getElem?_map] at hx
        cases hT : ts[i]? with
        | none => rw [hT] at hx; cases hx
        | some u =>
        rw [hT] at hx
        obtain rfl : tx u = x := Option.some.inj hx
        obtain ⟨lu, su⟩ := tm u (List.mem_of_getElem? hT)
        refine ⟨_, rfl, D, rfl, ⟨_, .inl (.inl (a1 _ _ hD))⟩, ?_⟩
        refine for_list (xs := ts.map tx) (fun j σ2 H3 => ∃ y3 y5, σ2 = [some (.ref g), some (tx L), some (.ref D), y3, some (tx u), y5] ∧ Ex H2 H3) ⟨_, _, rfl, a1⟩ (fun j σ2 H3 _ ⟨_, _, _, e⟩ => .inl (.inl (e _ _ hD))) (fun j x σ2 H3 hx hp => ?_) (fun σ2 H3 hp => ?_)
        · obtain ⟨y3, y5, rfl, b1⟩ := hp
          rw [List.getElem?_map] at hx
          cases hW : ts[j]? with
          | none => rw [hW] at hx; cases hx
          | some v =>
          rw [hW] at hx
          obtain rfl : tx v = x := Option.some.inj hx
          obtain ⟨lv, sv⟩ := tm v (List.mem_of_getElem? hW)
          refine ⟨_, rfl, _, rfl, u, v, rfl, lu, lv, by omega, by omega, fun H4 e4 => ?_⟩
          refine ⟨_, rfl, mk u, rfl, by rw [mk_len]; exact sz_of (by omega), _, rfl, by show 2 ≤ sizeLine; decide, fun p1 n1 => ?_⟩
          refine ⟨_, rfl, mk v, rfl, by rw [mk_len]; exact sz_of (by omega), _, rfl, by show 2 ≤ sizeLine; decide, fun p2 n2 => ?_⟩
          refine ⟨.tuple [.int ((mk u).length : Int), .str (mk u)], .tuple [.int ((mk v).length : Int), .str (mk v)], .tup (.inl (.inl (Ex.new n2 _ _ upd_same))) (.cons (.int _) (.cons (.str _) .nil)), .tup (.inl (.inl upd_same)) (.cons (.int _) (.cons (.str _) .nil)), by simp [PySem.W.alike, PySem.W.alikeAll], by simp, by simp [PyData.depth, PyData.depthAll], ?_⟩
          rw [Rx.lt_len_text]
          refine ⟨Rx.ahead (mk u) (mk v), rfl, true, rfl, iteF ?_⟩
          exact ⟨_, _, rfl, b1.trans (e4.trans ((Ex.new n1).trans (Ex.new n2)))⟩
        · obtain ⟨y3, y5, rfl, b1⟩ := hp
          exact ⟨_, _, _, rfl, b1⟩
      · obtain ⟨y3, y4, y5, rfl, a1⟩ := hp
        exact q _ (xg.ex a1) ((g2.ex a1).up (by omega))
end
end K04
set_option Elab.async false
set_option linter.all false
set_option maxRecDepth 100000
set_option maxHeartbeats 8000000
namespace K04
open PySem PySem.Spec PyProof.Rows L2 Evl Bx
open Px Lx Rx
/-! ### the texts in their order have the numbers in theirs -/
theorem wd_num {L : List Nat} (nd : L.Nodup) (l1 : 1 ≤ L.length) : ∀ (n i : Nat) (u : List Nat), (wd L n)[i]? = some u → num L.length (ixs L u) 0 = less L.length n + i
  | 0, i, u, h => by
    have h' : ([[]] : List (List Nat))[i]? = some u := h
    cases i with
    | zero =>
      have : [] = u := by simpa using h'
      subst this
      rfl
    | succ i => simp at h'
  | n + 1, i, u, h => by
    have hm : i % L.length < L.length := Nat.mod_lt _ (by omega)
    have ei : i / L.length * L.length + i % L.length = i := Nat.div_add_mod' i L.length
    have w := wd_at L n (i / L.length) (i % L.length) hm
    rw [ei, h] at w
    cases hv : (wd L n)[i / L.length]? with
    | none => rw [hv] at w; cases w
    | some v =>
      cases ha : L[i % L.length]? with
      | none => rw [hv, ha] at w; cases w
      | some a =>
        rw [hv, ha] at w
        obtain rfl : u = v ++ [a] := Option.some.inj w
        have ih := wd_num nd l1 n _ v hv
        have hx : L.idxOf a = i % L.length := by
          have e1 : L[i % L.length] = a := by
            rw [List.getElem?_eq_getElem hm] at ha
            exact Option.some.inj ha
          have hmem : a ∈ L := e1 ▸ List.getElem_mem hm
          have h1 := List.idxOf_lt_length_iff.mpr hmem
          have e2 : L[L.idxOf a] = a := List.getElem_idxOf h1
          have h2 : L[L.idxOf a]? = L[i % L.length]? := by rw [List.getElem?_eq_getElem h1, List.getElem?_eq_getElem hm, e1, e2]
          exact (List.getElem?_inj h1 nd).mp h2
        have ex : ixs L (v ++ [a]) = ixs L v ++ [i % L.length] := by
          unfold ixs
          rw [List.map_append]
          show _ ++ [L.idxOf a] = _
          rw [hx]
        rw [ex, num_snoc, ih]
        show (less L.length n + i / L.length) * L.length + i % L.length + 1 = less L.length n * L.length + 1 + i
        rw [Nat.add_mul]
        omega
theorem upto_len (L : List Nat) : ∀ d, (upto L d).length = less L.length (d + 1)
  | 0 => by show (wd L 0).length = _; rw [wd_len]; simp [less]
  | d + 1 => by
    show (upto L d ++ wd L (d + 1)).length = _
    rw [List.length_append, upto_len L d, wd_len]
    have h : ∀ m k, less m (k + 1) = less m k + m ^ k := by
      intro m k
      induction k with
      | zero => simp [less]
      | succ k ih =>
        show less m (k + 1) * m + 1 = less m k * m + 1 + m ^ (k + 1)
        rw [ih, Nat.add_mul, Nat.pow_succ]
        omega
    rw [h L.length (d + 1)]
theorem upto_num {L : List Nat} (nd : L.Nodup) (l1 : 1 ≤ L.length) : ∀ (d i : Nat) (u : List Nat), (upto L d)[i]? = some u → num L.length (ixs L u) 0 = i
  | 0, i, u, h => by
    have := wd_num nd l1 0 i u h
    rw [this]
    show 0 + i = i
    omega
  | d + 1, i, u, h => by
    have h' : (upto L d ++ wd L (d + 1))[i]? = some u := h
    by_cases lt : i < (upto L d).length
    · rw [List.getElem?_append_left lt] at h'
      exact upto_num nd l1 d i u h'
    · rw [List.getElem?_append_right (by omega)] at h'
      have := wd_num nd l1 (d + 1) _ u h'
      rw [this, ← upto_len]
      omega
theorem upto_in (L : List Nat) : ∀ (d : Nat) (u : List Nat), u ∈ upto L d → u.length ≤ d ∧ ∀ c ∈ u, c ∈ L
  | 0, u, h => by
    have h' : u ∈ wd L 0 := h
    exact ⟨by rw [wd_size L 0 u h']; omega, wd_over L 0 u h'⟩
  | d + 1, u, h => by
    have h' : u ∈ upto L d ++ wd L (d + 1) := h
    rcases List.mem_append.mp h' with e | e
    · have := upto_in L d u e
      exact ⟨by omega, this.2⟩
    · exact ⟨by rw [wd_size L (d + 1) u e]; omega, wd_over L (d + 1) u e⟩
theorem filt_wd (L : List Nat) (s n : Nat) : (wd L n).filter (fun t => decide (t.length = s)) = if n = s then wd L n else [] := by
  by_cases h : n = s
  · rw [if_pos h, List.filter_eq_self]
    intro u hu
    rw [wd_size L n u hu]
    exact decide_eq_true h
  · rw [if_neg h, List.filter_eq_nil_iff]
    intro u hu
    rw [wd_size L n u hu, decide_eq_false h]
    decide
theorem filt_upto (L : List Nat) (s : Nat) : ∀ d, (upto L d).filter (fun t => decide (t.length = s)) = if s ≤ d then wd L s else []
  | 0 => by
    show (wd L 0).filter _ = _
    rw [filt_wd]
    by_cases h : s = 0
    · subst h; simp
    · rw [if_neg (by omega), if_neg (by omega)]
  | d + 1 => by
    show (upto L d ++ wd L (d + 1)).filter _ = _
    rw [List.filter_append, filt_upto L s d, filt_wd]
    by_cases h : s ≤ d
    · rw [if_pos h, if_neg (by omega), if_pos (by omega), List.append_nil]
    · by_cases h2 : d + 1 = s
      · rw [if_neg h, if_pos h2, if_pos (by omega), h2]
        rfl
      · rw [if_neg h, if_neg h2, if_neg (by omega)]
        rfl
def dep (m : Nat) : Nat := ([30, 7, 5, 4] : List Nat).getD (m - 1) 0
theorem dep_small : ∀ m, m < 5 → ∀ k, k < 31 → 1 ≤ m → k ≤ dep m → m ^ k ≤ 400 ∧ less m (k + 1) ≤ 400 := by decide +kernel
theorem dep_le : ∀ m, m < 5 → 1 ≤ m → 2 ≤ dep m ∧ dep m ≤ 30 := by decide
section
variable {P : Program} {w : World} {K : PySem.W.Frag} {mg : Str → Option Value} {base : Heap}
def sp_words (K : PySem.W.Frag) : Sp := fun vs H Q _ => ∃ (L : List Nat) (d : Nat), vs = [tx L, .int (d : Nat)] ∧ 1 ≤ L.length ∧ L.length ≤ 4 ∧ d ≤ 30 ∧ (∀ k, k ≤ d → L.length ^ k ≤ 400 ∧ (upto L k).length ≤ 400) ∧ ∀ H' p, Ex H H' → H p = none → H' p = some (.lst ((Lx.upto L d).map tx)) → Q (.ref p) H'
theorem ok__law_words (T : Tx K mg) : FnOk P w K mg base CX0 1 T.a__law_words T.fd__law_words ["_law_letters", "_law_depth"] (sp_words K) := by
  refine T.F__law_words.ok sc__law_words (fun vs H Q E h => ?_) (fun cdv A outer s H vs Q E hr h => ?_)
  · obtain ⟨_, _, rfl, _⟩ := h
    rfl
  · obtain ⟨L, d, rfl, l1, l4, d4, hb, q⟩ := h
    refine ⟨_, (pss_cons (ps_par (i := 2) (j := 3) (by rfl) sc__law_words.nd rfl rfl (by decide) (by rfl) (by rfl) (pa_cons (pe_lst (pa_cons pe_str pa_nil)) (pa_cons (pe_lst (pa_cons pe_str pa_nil)) pa_nil)) (by rfl)) (pss_cons (ps_for PassesOwn.never rfl (pi_range1 (by rfl) T.n_range (pa_cons (pv 1) pa_nil)) (pg_name (i := 4) sc__law_words.nd rfl (by first | exact Or.inl rfl | exact Or.inr rfl)) (pss_cons (ps_set (i := 5) sc__law_words.nd rfl (by first | exact Or.inl rfl | exact Or.inr rfl) (pe_lst pa_nil)) (pss_cons (ps_for PassesOwn.never rfl (pi_list (pv 3)) (pg_name (i := 6) sc__law_words.nd rfl (by first | exact Or.inl rfl | exact Or.inr rfl)) (pss_one (ps_set (i := 5) sc__law_words.nd rfl (by first | exact Or.inl rfl | exact Or.inr rfl) (pe_op op_cat (pv 5) (pe_lc (own := [("_law_letter", 7)]) (g := (gName 7)) (tt := tYes) rfl sc__law_words.nd (pi_str (pv 0)) (blkOk_by (own := [("_law_letter", 7)]) (N := N__law_words) (sc := defScope s__law_words) (by decide +kernel)) (fun _ _ _ _ _ => (pg_name (i := 7) sc__law_words.nd rfl (by first | exact Or.inl rfl | exact Or.inr rfl))) (fun _ _ _ _ _ => pts_nil) (fun _ _ _ _ _ => (pe_op op_add_str (pv 6) (pv 7)))))))) (pss_cons (ps_set (i := 3) sc__law_words.nd rfl (by first | exact Or.inl rfl | exact Or.inr rfl) (pv 5)) (pss_one (ps_set (i := 2) sc__law_words.nd rfl (by first | exact Or.inl rfl | exact Or.inr rfl) (pe_op op_cat (pv 2) (pv 3)))))))) (pss_one (ps_ret (pv 2))))), ?_⟩
    refine ⟨by show 1 ≤ sizeLine; decide, fun p1 n1 => ?_⟩
    refine ⟨by show 1 ≤ sizeLine; decide, fun p2 n2 => ?_⟩
    refine ⟨_, _, rfl, ?_⟩
    have em : V.str (Str.ofString "") = tx [] := by rfl
    rw [em] at *
    have d12 : p1 ≠ p2 := fun e => by rw [← e, upd_same] at n2; cases n2
    have x0 : Ex H (upd (upd H p1 (.lst [tx []])) p2 (.lst [tx []])) := (Ex.new n1).trans (Ex.new n2)
    have f2 : H p2 = none := fresh_back (Ex.new n1) n2
    have a1 : upd (upd H p1 (.lst [tx []])) p2 (.lst [tx []]) p1 = some (.lst ((Lx.upto L 0).map tx)) := by rw [upd_ne d12, upd_same]; rfl
    have a2 : upd (upd H p1 (.lst [tx []])) p2 (.lst [tx []]) p2 = some (.lst ((Lx.wd L 0).map tx)) := by rw [upd_same]; rfl
    generalize upd (upd H p1 (.lst [tx []])) p2 (.lst [tx []]) = H0 at x0 a1 a2 ⊢
    refine ⟨_, rfl, (d : Nat), rfl, by omega, by omega, ?_⟩
    rw [Int.toNat_natCast]
    refine for_range (lo := 0) (n := d) (fun i σ2 H2 => ∃ pf pr y4 y5 y6 y7, σ2 = [some (tx L), some (.int (d : Nat)), some (.ref pf), some (.ref pr), y4, y5, y6, y7] ∧ Ex H H2 ∧ H pf = none ∧ H2 pf = some (.lst ((Lx.upto L i).map tx)) ∧ H2 pr = some (.lst ((Lx.wd L i).map tx))) ⟨p1, p2, _, _, _, _, rfl, x0, n1, a1, a2⟩ (fun i σ2 H2 hi hp => ?_) (fun σ2 H2 hp => ?_)
    · obtain ⟨pf, pr, y4, y5, y6, y7, rfl, b1, b2, b3, b4⟩ := hp
      have bw : (Lx.wd L (i + 1)).length ≤ 400 := by rw [wd_len]; exact (hb (i + 1) (by omega)).1
      have bu := (hb i (by omega)).2
      refine ⟨by show 0 ≤ sizeLine; decide, fun pw npw => ?_⟩
      have xw : Ex H2 (upd H2 pw (.lst [])) := Ex.new npw
      have hw : upd H2 pw (.lst []) pw = some (.lst ((((Lx.wd L i).take 0).flatMap fun u => L.map fun a => u ++ [a]).map tx)) := by rw [upd_same]; rfl
      generalize upd H2 pw (.lst []) = H3 at xw hw ⊢
      refine ⟨_, rfl, pr, rfl, ⟨_, .inl (.inl (xw _ _ b4))⟩, ?_⟩
      refine for_list (xs := (Lx.wd L i).map tx) (fun j σ3 H4 => ∃ pw y4 y6 y7, σ3 = [some (tx L), some (.int (d : Nat)), some (.ref pf), some (.ref pr), y4, some (.ref pw), y6, y7] ∧ Ex H2 H4 ∧ H4 pw = some (.lst ((((Lx.wd L i).take j).flatMap fun u => L.map fun a => u ++ [a]).map tx))) ⟨pw, _, _, _, rfl, xw, hw⟩ (fun j σ3 H4 _ ⟨_, _, _, _, _, e, _⟩ => .inl (.inl (e _ _ b4))) (fun j x σ3 H4 hx hp => ?_) (fun σ3 H4 hp => ?_)
      · obtain ⟨pw, y4, y6, y7, rfl, c1, c2⟩ := hp
        rw [List.getElem?_map] at hx
        cases hW : (Lx.wd L i)[j]? with
        | none => rw [hW] at hx; cases hx
        | some u =>
        rw [hW] at hx
        obtain rfl : tx u = x := Option.some.inj hx
        have lu : u.length = i := Lx.wd_size L i u (List.mem_of_getElem? hW)
        have etk : (Lx.wd L i).take (j + 1) = (Lx.wd L i).take j ++ [u] := by rw [List.take_add_one, hW]; rfl
        refine ⟨_, rfl, _, rfl, mk L, rfl, fun D nD => ?_⟩
        refine lc_it (walk_str (z := mk L)) (fun k H5 => Ex H4 H5 ∧ H5 D = some (.lst (((L.take k).map fun a => u ++ [a]).map tx))) ⟨Ex.new nD, upd_same⟩ (fun _ _ _ _ => trivial) (fun k x H5 H6 hk hp y => ?_) (fun H5 hp => ?_)
        · obtain ⟨rfl, c, hc, rfl⟩ := y
          have hc' : L[k]? = some c := by rw [← hc]; simp
          have hkl : k < L.length := (List.getElem?_eq_some_iff.mp hc').1
          have et : L.take (k + 1) = L.take k ++ [c] := by rw [List.take_add_one, hc']; rfl
          refine ⟨rfl, _, rfl, _, rfl, mk u, mk [c], rfl, rfl, by rw [mk_len, mk_len, lu]; exact sz_of (by show _ + 1 ≤ _; omega), ?_⟩
          rw [mk_app]
          refine ⟨_, hp.2, by rw [List.length_map, List.length_map, List.length_take]; exact sz_lt (by omega), Ex.mut hp.1 nD, ?_⟩
          rw [upd_same, et, List.map_append, List.map_append]
          rfl
        · have e0 : (mk L).cps.size = L.length := mk_len L
          obtain ⟨h1, h2⟩ := hp
          rw [e0, List.take_of_length_le (Nat.le_refl _)] at h2
          have eT : (((Lx.wd L i).take (j + 1)).flatMap fun u => L.map fun a => u ++ [a]) = (((Lx.wd L i).take j).flatMap fun u => L.map fun a => u ++ [a]) ++ L.map fun a => u ++ [a] := by
            rw [etk, List.flatMap_append, List.flatMap_singleton]
          have bd := flat_tk (fun u => L.map fun a => u ++ [a]) (Lx.wd L i) (j + 1)
          have bw' : ((Lx.wd L i).flatMap fun u => L.map fun a => u ++ [a]).length ≤ 400 := bw
          rw [eT, List.length_append] at bd
          have h3 := h1 _ _ c2
          refine ⟨pw, D, _, _, rfl, rfl, h3, h2, by rw [List.length_map, List.length_map]; exact sz_of (by omega), fun z nz => ?_⟩
          refine ⟨z, _, _, _, rfl, (c1.trans h1).trans (Ex.new nz), ?_⟩
          rw [upd_same, eT, List.map_append]
      · obtain ⟨pw, y4, y6, y7, rfl, c1, c2⟩ := hp
        rw [List.length_map, List.take_of_length_le (Nat.le_refl _)] at c2
        have c2' : H4 pw = some (.lst ((Lx.wd L (i + 1)).map tx)) := c2
        refine ⟨_, rfl, _, rfl, _, rfl, pf, pw, _, _, rfl, rfl, c1 _ _ b3, c2', by rw [List.length_map, List.length_map]; exact sz_of (by omega), fun z nz => ?_⟩
        refine ⟨z, pw, _, _, _, _, rfl, (b1.trans c1).trans (Ex.new nz), fresh_back (b1.trans c1) nz, ?_, Ex.new nz _ _ c2'⟩
        rw [upd_same]
        show _ = some (HO.lst ((Lx.upto L i ++ Lx.wd L (i + 1)).map tx))
        rw [List.map_append]
    · obtain ⟨pf, pr, y4, y5, y6, y7, rfl, b1, b2, b3, b4⟩ := hp
      exact ⟨_, rfl, q H2 pf b1 b2 b3⟩
end
end K04
set_option Elab.async false
set_option linter.all false
set_option maxRecDepth 100000
set_option maxHeartbeats 4000000
/-! Dx: data that are compared, by short words -/
namespace Dx
open PySem PySem.Spec PyProof.Rows L2 Evl Bx
abbrev dT (ts : List (List Nat)) : PyData := .list (ts.map fun t => .str (mk t))
abbrev dI (ns : List Int) : PyData := .list (ns.map .int)
abbrev uT (ts : List (List Nat)) : PyData := .tuple (ts.map fun t => .str (mk t))
abbrev uI (ns : List Int) : PyData := .tuple (ns.map .int)
section
variable {K : PySem.W.Frag} {H : Hp} {p : Addr}
theorem dpAll_txs : ∀ ts : List (List Nat), DpAll K H (ts.map tx) (ts.map fun t => .str (mk t))
  | [] => .nil
  | t :: ts => .cons (.str _) (dpAll_txs ts)
theorem dp_txs {ts : List (List Nat)} (h : H p = some (.lst (ts.map tx))) : Dp K H (.ref p) (dT ts) := .lst (.inl (.inl h)) (dpAll_txs ts)
theorem dp_ints {ns : List Int} (h : H p = some (.lst (ns.map V.int))) : Dp K H (.ref p) (dI ns) := .lst (.inl (.inl h)) (dpAll_ints ns)
theorem dp_utxs {ts : List (List Nat)} (h : H p = some (.tup (ts.map tx))) : Dp K H (.ref p) (uT ts) := .tup (.inl (.inl h)) (dpAll_txs ts)
theorem dp_uints {ns : List Int} (h : H p = some (.tup (ns.map V.int))) : Dp K H (.ref p) (uI ns) := .tup (.inl (.inl h)) (dpAll_ints ns)
end
theorem sh_txs {ts : List (List Nat)} (h : ∀ t ∈ ts, Low t) : SeqAt.shaped (dT ts) = true := (flat_shaped _ fun d hd => by
  obtain ⟨n, hn, rfl⟩ := List.mem_map.mp hd
  exact ⟨str_ok (h n hn), rfl⟩).1
theorem sh_ints (ns : List Int) : SeqAt.shaped (dI ns) = true := shaped_ints ns
theorem sh_utxs {ts : List (List Nat)} (h : ∀ t ∈ ts, Low t) : SeqAt.shaped (uT ts) = true := (flat_shaped _ fun d hd => by
  obtain ⟨n, hn, rfl⟩ := List.mem_map.mp hd
  exact ⟨str_ok (h n hn), rfl⟩).2
theorem sh_uints (ns : List Int) : SeqAt.shaped (uI ns) = true := (flat_shaped _ fun d hd => by
  obtain ⟨n, hn, rfl⟩ := List.mem_map.mp hd
  exact ⟨rfl, rfl⟩).2
theorem eq_self {d : PyData} (h : SeqAt.shaped d = true) : V.bl (PyData.eqv d d) = V.bl true := by rw [SeqAt.eqv_refl d (SeqAt.canLay_of_shaped h)]
theorem ne_self {d : PyData} (h : SeqAt.shaped d = true) : V.bl (!PyData.eqv d d) = V.bl false := by rw [SeqAt.eqv_refl d (SeqAt.canLay_of_shaped h)]; rfl
theorem eqv_txs : ∀ ts us : List (List Nat), PyData.eqvAll (ts.map fun t => .str (mk t)) (us.map fun t => .str (mk t)) = decide (ts = us)
  | [], [] => by simp [PyData.eqvAll]
  | [], _ :: _ => by simp [PyData.eqvAll]
  | _ :: _, [] => by simp [PyData.eqvAll]
  | n :: ns, m :: ms => by
    show ((mk n == mk m) && PyData.eqvAll (ns.map fun t => .str (mk t)) (ms.map fun t => .str (mk t))) = _
    rw [eqv_txs ns ms]
    by_cases h1 : n = m <;> by_cases h2 : ns = ms <;> simp [h1, h2, mk_inj]
end Dx
namespace Dx
open PySem PySem.Spec PyProof.Rows L2 Evl Bx
theorem sIx_neg1 (n d : Nat) : HT.sIx (n + 1) d (some (0 - 1)) = n := by
  show (if (0 - 1 : Int) < 0 then ((0 - 1 : Int) + ((n + 1 : Nat) : Int)).toNat else min (0 - 1 : Int).toNat (n + 1)) = n
  rw [if_pos (by decide)]
  omega
theorem cut_but_last (xs : List V) (y : V) : cutV (xs ++ [y]) none (some (0 - 1)) = xs := by
  unfold cutV
  rw [HT.sIx_none, List.drop_zero, List.length_append]
  show List.take (HT.sIx (xs.length + 1) _ _ - 0) _ = _
  rw [sIx_neg1, Nat.sub_zero, List.take_append_of_le_length (Nat.le_refl _), List.take_of_length_le (Nat.le_refl _)]
end Dx
set_option Elab.async false
set_option linter.all false
set_option maxRecDepth 100000
set_option maxHeartbeats 8000000
namespace K04
open PySem PySem.Spec PyProof.Rows L2 Evl Bx
open Px Lx Rx Dx
theorem dep_at {m : Nat} (h1 : 1 ≤ m) (h4 : m ≤ 4) : atI (([30, 7, 5, 4] : List Int).map V.int) ((m : Nat) - 1 : Int) = some (V.int (dep m : Nat)) := by
  have : m = 1 ∨ m = 2 ∨ m = 3 ∨ m = 4 := by omega
  rcases this with e | e | e | e <;> subst e <;> rfl
theorem rg_ints (n : Nat) : rgV 0 (n : Nat) = ((List.range n).map fun i => ((i : Nat) : Int)).map V.int := by
  unfold rgV
  rw [List.map_map, Int.sub_zero, Int.toNat_natCast]
  exact List.map_congr_left fun i _ => by
    show V.int (0 + (i : Nat)) = V.int (i : Nat)
    rw [Int.zero_add]
section
variable {P : Program} {w : World} {K : PySem.W.Frag} {mg : Str → Option Value} {base : Heap}
theorem kb_texts_of_0_size_letters (T : Tx K mg) : KBinds K T.fd_texts_of ["letters", "size"] ["size", "letters"] perm2 perm2 := by
  obtain ⟨oc, od, kV, doc, pm, an, cdv, ct, osl, hfd, lk, hcd⟩ := T.F_texts_of.ex
  refine ⟨fun s us ws _ hl => ?_, rel2⟩
  rw [hfd]
  match us, ws, hl with
  | [], [a, b], _ => exact .of_eq rfl
def sp_few (K : PySem.W.Frag) : Sp := fun vs H Q _ => ∃ (L : List Nat), vs = [tx L] ∧ Alph L ∧ ∀ H', Ex H H' → Q (.bl true) H'
theorem ok__law_few_right (T : Tx K mg) : FnOk P w K mg base CX0 5 T.a__law_few_right T.fd__law_few_right ["_law_letters"] (sp_few K) := by
  refine T.F__law_few_right.ok sc__law_few_right (fun vs H Q E h => ?_) (fun cdv A outer s H vs Q E hr h => ?_)
  · obtain ⟨_, rfl, _⟩ := h
    rfl
  · obtain ⟨L, rfl, aL, q⟩ := h
    refine ⟨_, (pss_cons (ps_set (i := 1) sc__law_few_right.nd rfl (by first | exact Or.inl rfl | exact Or.inr rfl) (pe_ix ix_list (pe_lst (pa_cons pe_int (pa_cons pe_int (pa_cons pe_int (pa_cons pe_int pa_nil))))) (pe_op op_sub (pe_callB call_len_str (by rfl) T.n_len (by decide +kernel) (pa_cons (pv 0) pa_nil)) pe_int) (fun _ _ => rfl))) (pss_cons (ps_set (i := 2) sc__law_few_right.nd rfl (by first | exact Or.inl rfl | exact Or.inr rfl) (pe_call (ok__law_words T) (hr.mono (by decide)) (by rfl) T.g__law_words T.F__law_words.kp (b__law_words T) .nil pass0 (pa_cons (pv 0) (pa_cons (pv 1) pa_nil)))) (pss_cons (ps_if (pt_cmpR (op_neD hr.units) (pe_lc (own := [("_law_number", 3)]) (g := (gName 3)) (tt := tYes) rfl sc__law_few_right.nd (pi_range1 (by rfl) T.n_range (pa_cons (pe_callB call_len_seq (by rfl) T.n_len (by decide +kernel) (pa_cons (pv 2) pa_nil)) pa_nil)) (blkOk_by (own := [("_law_number", 3)]) (N := N__law_few_right) (sc := defScope s__law_few_right) (by decide +kernel)) (fun _ _ _ _ _ => (pg_name (i := 3) sc__law_few_right.nd rfl (by first | exact Or.inl rfl | exact Or.inr rfl))) (fun _ _ _ _ _ => pts_nil) (fun _ _ _ _ _ => (pe_call (ok_text_numbered T) (hr.mono (by decide)) (by rfl) T.g_text_numbered T.F_text_numbered.kp (b_text_numbered T) .nil pass0 (pa_cons (pv 0) (pa_cons (pv 3) pa_nil))))) (pv 2) (nomark _)) (pss_one (ps_ret pe_bl)) pss_nil) (pss_cons (ps_if (pt_cmpR (op_neD hr.units) (pe_lc (own := [("_law_text_here", 4)]) (g := (gName 4)) (tt := tYes) rfl sc__law_few_right.nd (pi_list (pv 2)) (blkOk_by (own := [("_law_text_here", 4)]) (N := N__law_few_right) (sc := defScope s__law_few_right) (by decide +kernel)) (fun _ _ _ _ _ => (pg_name (i := 4) sc__law_few_right.nd rfl (by first | exact Or.inl rfl | exact Or.inr rfl))) (fun _ _ _ _ _ => pts_nil) (fun _ _ _ _ _ => (pe_call (ok_text_number T) (hr.mono (by decide)) (by rfl) T.g_text_number T.F_text_number.kp (b_text_number T) .nil pass0 (pa_cons (pv 0) (pa_cons (pv 4) pa_nil))))) (pe_listRg rfl (by rfl) T.n_list (prg_1 (by rfl) T.n_range (pe_callB call_len_seq (by rfl) T.n_len (by decide +kernel) (pa_cons (pv 2) pa_nil)))) (nomark _)) (pss_one (ps_ret pe_bl)) pss_nil) (pss_cons (ps_for PassesOwn.never rfl (pi_list (pe_lst (pa_cons pe_int (pa_cons pe_int (pa_cons pe_int (pa_cons (pv 1) pa_nil)))))) (pg_name (i := 5) sc__law_few_right.nd rfl (by first | exact Or.inl rfl | exact Or.inr rfl)) (pss_cons (ps_set (i := 6) sc__law_few_right.nd rfl (by first | exact Or.inl rfl | exact Or.inr rfl) (pe_call (ok_texts_of T) (hr.mono (by decide)) (by rfl) T.g_texts_of T.F_texts_of.kp (b_texts_of T) .nil pass0 (pa_cons (pv 0) (pa_cons (pv 5) pa_nil)))) (pss_cons (ps_if (PW.pt (pw_or (pt_cmpR (op_neD hr.units) (pv 6) (pe_lc (own := [("_law_text_here", 4)]) (g := (gName 4))  rfl sc__law_few_right.nd (pi_list (pv 2)) (blkOk_by (own := [("_law_text_here", 4)]) (N := N__law_few_right) (sc := defScope s__law_few_right) (by decide +kernel)) (fun _ _ _ _ _ => (pg_name (i := 4) sc__law_few_right.nd rfl (by first | exact Or.inl rfl | exact Or.inr rfl))) (fun _ _ _ _ _ => (pts_one (pt_cmpR op_eq (pe_callB call_len_str (by rfl) T.n_len (by decide +kernel) (pa_cons (pv 4) pa_nil)) (pv 5) (nomark _)))) (fun _ _ _ _ _ => (pv 4))) (nomark _)) (pw_or1 (pt_cmpR (op_neD hr.units) (pe_callK0 (ok_texts_of T) (hr.mono (by decide)) (by rfl) T.g_texts_of T.F_texts_of.kp (kb_texts_of_0_size_letters T) pass0 (pk_cons (pv 5) (pk_cons (pv 0) pk_nil))) (pv 6) (nomark _))))) (pss_one (ps_ret pe_bl)) pss_nil) (pss_cons (ps_expr (pe_bm PySem.F.plainAttrs_list PySem.F.slot_list_append PySem.F.type_list_append mt_append (pv 6) (pa_cons pe_non pa_nil))) (pss_one (ps_if (pt_cmpR (op_neD hr.units) (pe_call (ok_texts_of T) (hr.mono (by decide)) (by rfl) T.g_texts_of T.F_texts_of.kp (b_texts_of T) .nil pass0 (pa_cons (pv 0) (pa_cons (pv 5) pa_nil))) (pe_slice sl_list (pv 6) po_none (po_some (pe_op op_sub pe_int pe_int))) (nomark _)) (pss_one (ps_ret pe_bl)) pss_nil)))))) (pss_one (ps_ret pe_bl))))))), ?_⟩
    have l4 := aL.four
    have l1 := aL.one
    have nd := lt_nodup aL.up
    obtain ⟨d2, d30⟩ := dep_le L.length (by omega) l1
    have sm := fun k (hk : k ≤ dep L.length) => dep_small L.length (by omega) k (by omega) l1 hk
    refine ⟨by show 4 ≤ sizeLine; decide, fun p1 n1 => ?_⟩
    refine ⟨_, rfl, mk L, rfl, by rw [mk_len]; exact sz_of (by omega), _, 1, rfl, rfl, p1, ([30, 7, 5, 4] : List Int).map V.int, _, _, rfl, rfl, .inl (.inl upd_same), by rw [mk_len]; exact dep_at l1 l4, ?_⟩
    generalize hd : dep L.length = d at d2 d30 sm ⊢
    have x1 : Ex H (upd H p1 (.lst ((([30, 7, 5, 4] : List Int)).map V.int))) := Ex.new n1
    refine ⟨_, rfl, _, rfl, L, d, rfl, l1, l4, d30, fun k hk => ⟨(sm k hk).1, by rw [upto_len]; exact (sm k hk).2⟩, fun H2 pd e2 n2 h2 => ?_⟩
    have fpd : H pd = none := fresh_back x1 n2
    have x2 := x1.trans e2
    have len : (upto L d).length ≤ 400 := by rw [upto_len]; exact (sm d (Nat.le_refl _)).2
    have low : ∀ t ∈ upto L d, Low t := fun t ht c hc => aL.low c ((upto_in L d t ht).2 c hc)
    have shD := sh_txs low
    -- each text at its number
    refine ⟨_, rfl, pd, _, rfl, .inl (.inl (.inl h2)), _, rfl, by omega, by rw [List.length_map]; omega, fun D nD => ?_⟩
    rw [List.length_map, Int.toNat_natCast]
    refine lc_range (lo := 0) (n := (upto L d).length) (fun i H3 => Ex H2 H3 ∧ H3 D = some (.lst (((upto L d).take i).map tx))) ⟨Ex.new nD, upd_same⟩ (fun i H3 hi hp => ?_) (fun H3 hp => ?_)
    · obtain ⟨a1, a2⟩ := hp
      have ri : (upto L d)[i]? = some (upto L d)[i] := List.getElem?_eq_getElem hi
      generalize (upto L d)[i] = u at ri
      have hu := upto_in L d u (List.mem_of_getElem? ri)
      have e0 : (0 : Int) + (i : Nat) = (i : Nat) := Int.zero_add _
      refine ⟨rfl, _, rfl, _, rfl, L, u, ?_, aL, hu.2, by omega, fun H4 e4 => ?_⟩
      · rw [upto_num nd l1 d i u ri, e0]
        rfl
      refine ⟨_, e4 _ _ a2, by rw [List.length_map, List.length_take]; exact sz_lt (by omega), Ex.mut (a1.trans e4) nD, ?_⟩
      rw [upd_same, List.take_add_one, ri, List.map_append]
      rfl
    obtain ⟨a1, a2⟩ := hp
    rw [List.take_of_length_le (Nat.le_refl _)] at a2
    refine ⟨_, rfl, dT (upto L d), dT (upto L d), dp_txs a2, dp_txs (a1 _ _ h2), shD, shD, false, ne_self shD, iteF ?_⟩
    -- each number of its text
    have h3 := a1 _ _ h2
    refine ⟨_, rfl, pd, rfl, ⟨_, .inl (.inl h3)⟩, fun D2 nD2 => ?_⟩
    refine lc_list (xs := (upto L d).map tx) (fun i H4 => Ex H3 H4 ∧ H4 D2 = some (.lst (((List.range i).map fun i => ((i : Nat) : Int)).map V.int))) ⟨Ex.new nD2, upd_same⟩ (fun j H4 _ hp => .inl (.inl (hp.1 _ _ h3))) (fun i x H4 hx hp => ?_) (fun H4 hp => ?_)
    · obtain ⟨b1, b2⟩ := hp
      rw [List.getElem?_map] at hx
      cases ri : (upto L d)[i]? with
      | none => rw [ri] at hx; cases hx
      | some u =>
      rw [ri] at hx
      obtain rfl : tx u = x := Option.some.inj hx
      have hi := (List.getElem?_eq_some_iff.mp ri).1
      have hu := upto_in L d u (List.mem_of_getElem? ri)
      refine ⟨rfl, _, rfl, _, rfl, L, u, rfl, aL, hu.2, by omega, fun H5 e5 => ?_⟩
      refine ⟨_, e5 _ _ b2, by rw [List.length_map, List.length_map, List.length_range]; exact sz_lt (by omega), Ex.mut (b1.trans e5) nD2, ?_⟩
      rw [upd_same, upto_num nd l1 d i u ri, List.range_succ, List.map_append, List.map_append]
      rfl
    obtain ⟨b1, b2⟩ := hp
    rw [List.length_map] at b2
    have h4 := b1 _ _ h3
    refine ⟨_, rfl, pd, _, rfl, .inl (.inl (.inl h4)), _, rfl, ?_, fun p5 n5 => ?_⟩
    · rw [List.length_map]
      exact RgOk.of_le (by omega) (by omega) (by omega) (by omega)
    rw [List.length_map, rg_ints]
    have x5 : Ex H4 (upd H4 p5 (.lst (((List.range (upto L d).length).map fun i => ((i : Nat) : Int)).map V.int))) := Ex.new n5
    refine ⟨dI _, dI _, dp_ints (x5 _ _ b2), dp_ints upd_same, sh_ints _, sh_ints _, false, ne_self (sh_ints _), iteF ?_⟩
    have h5 := x5 _ _ h4
    have x5' := (x2.trans a1).trans (b1.trans x5)
    generalize upd H4 p5 (.lst (((List.range (upto L d).length).map fun i => ((i : Nat) : Int)).map V.int)) = H5 at h5 x5'
    -- texts of one size
    refine ⟨_, rfl, by show 4 ≤ sizeLine; decide, fun ps nps => ?_⟩
    have x6 : Ex H5 (upd H5 ps (.lst [V.int 0, V.int 1, V.int 2, V.int (d : Nat)])) := Ex.new nps
    have h6 : upd H5 ps (.lst [V.int 0, V.int 1, V.int 2, V.int (d : Nat)]) ps = some (.lst [V.int 0, V.int 1, V.int 2, V.int (d : Nat)]) := upd_same
    have hD6 := x6 _ _ h5
    have x6' := x5'.trans x6
    generalize upd H5 ps (.lst [V.int 0, V.int 1, V.int 2, V.int (d : Nat)]) = H6 at h6 hD6 x6'
    refine ⟨ps, rfl, ⟨_, .inl (.inl h6)⟩, ?_⟩
    refine for_list (xs := [V.int 0, V.int 1, V.int 2, V.int (d : Nat)]) (fun i σ' H' => ∃ y3 y4 y5 y6, σ' = [some (tx L), some (.int (d : Nat)), some (.ref pd), y3, y4, y5, y6] ∧ Ex H6 H') ⟨_, _, _, _, rfl, Ex.refl H6⟩ (fun i σ' H' _ ⟨_, _, _, _, _, e⟩ => .inl (.inl (e _ _ h6))) (fun i x σ' H' hx hp => ?_) (fun σ' H' hp => ?_)
    · obtain ⟨y3, y4, y5, y6, rfl, a3⟩ := hp
      obtain ⟨s, rfl, hs⟩ : ∃ s : Nat, x = V.int (s : Nat) ∧ s ≤ d := by
        have := List.mem_of_getElem? hx
        simp only [List.mem_cons, List.not_mem_nil, or_false] at this
        rcases this with e | e | e | e
        · exact ⟨0, e, by omega⟩
        · exact ⟨1, e, by omega⟩
        · exact ⟨2, e, by omega⟩
        · exact ⟨d, e, by omega⟩
      have pw := (sm s hs).1
      have loww : ∀ t ∈ wd L s, Low t := fun t ht c hc => aL.low c (wd_over L s t ht c hc)
      have shW := sh_txs loww
      have wl : (wd L s).length ≤ 400 := by rw [wd_len]; exact pw
      refine ⟨_, rfl, _, rfl, L, s, rfl, aL, by omega, by omega, fun H7 pt e7 n7 h7 => ?_⟩
      have hD7 := e7 _ _ (a3 _ _ hD6)
      refine ⟨_, rfl, _, rfl, pd, rfl, ⟨_, .inl (.inl hD7)⟩, fun D3 nD3 => ?_⟩
      refine lc_list (xs := (upto L d).map tx) (fun i H8 => Ex H7 H8 ∧ H8 D3 = some (.lst ((((upto L d).take i).filter fun t => decide (t.length = s)).map tx))) ⟨Ex.new nD3, upd_same⟩ (fun j H8 _ hp => .inl (.inl (hp.1 _ _ hD7))) (fun i x H8 hx hp => ?_) (fun H8 hp => ?_)
      · obtain ⟨b3, b4⟩ := hp
        rw [List.getElem?_map] at hx
        cases ri : (upto L d)[i]? with
        | none => rw [ri] at hx; cases hx
        | some u =>
        rw [ri] at hx
        obtain rfl : tx u = x := Option.some.inj hx
        have hu := upto_in L d u (List.mem_of_getElem? ri)
        have et : (upto L d).take (i + 1) = (upto L d).take i ++ [u] := by rw [List.take_add_one, ri]; rfl
        refine ⟨rfl, ?_⟩
        refine ⟨_, rfl, mk u, rfl, by rw [mk_len]; exact sz_of (by omega), _, rfl, rfl, decide (u.length = s), ?_, ?_⟩
        · rw [mk_len]
          by_cases z : u.length = s
          · rw [decide_eq_true z, z]
            exact congrArg V.bl (decide_eq_true rfl)
          · rw [decide_eq_false z]
            exact congrArg V.bl (decide_eq_false fun e => z (by have := V.int.inj e; omega))
        rw [et, List.filter_append]
        refine ite2 (fun z => ?_) (fun z => ?_)
        · refine ⟨_, rfl, _, b4, ?_, Ex.mut b3 nD3, ?_⟩
          · rw [List.length_map]
            have := List.length_filter_le (fun t : List Nat => decide (t.length = s)) ((upto L d).take i)
            rw [List.length_take] at this
            exact sz_lt (by omega)
          · rw [upd_same, List.map_append, List.filter_cons, if_pos z]
            rfl
        · refine ⟨b3, ?_⟩
          rw [List.filter_cons, if_neg z, List.filter_nil, List.append_nil]
          exact b4
      obtain ⟨b3, b4⟩ := hp
      rw [List.length_map, List.take_of_length_le (Nat.le_refl _), filt_upto, if_pos hs] at b4
      have h8 := b3 _ _ h7
      refine ⟨dT (wd L s), dT (wd L s), dp_txs h8, dp_txs b4, shW, shW, false, ne_self shW, iteF ?_⟩
      refine ⟨_, rfl, _, rfl, L, s, rfl, aL, by omega, by omega, fun H9 p9 e9 n9 h9 => ?_⟩
      have h9' := e9 _ _ h8
      refine ⟨_, rfl, dT (wd L s), dT (wd L s), dp_txs h9, dp_txs h9', shW, shW, false, ne_self shW, iteF ?_⟩
      refine ⟨_, rfl, .inl ⟨rfl, _, .inl (.inl h9')⟩, pt, _, _, rfl, rfl, h9', by rw [List.length_map]; exact sz_lt (by omega), ?_⟩
      have fpt : H6 pt = none := fresh_back a3 n7
      have x9 : Ex H6 (upd H9 pt (.lst ((wd L s).map tx ++ [.non]))) := Ex.mut (a3.trans (e7.trans (b3.trans e9))) fpt
      have h10 : upd H9 pt (.lst ((wd L s).map tx ++ [.non])) pt = some (.lst ((wd L s).map tx ++ [.non])) := upd_same
      generalize upd H9 pt (.lst ((wd L s).map tx ++ [.non])) = H10 at x9 h10
      refine ⟨_, rfl, _, rfl, L, s, rfl, aL, by omega, by omega, fun H11 p11 e11 n11 h11 => ?_⟩
      refine ⟨_, rfl, _, _, rfl, rfl, _, rfl, pt, _, rfl, .inl (.inl (e11 _ _ h10)), fun p12 n12 => ?_⟩
      have ec := cut_but_last ((wd L s).map tx) V.non
      rw [ec]
      have x12 : Ex H11 (upd H11 p12 (.lst ((wd L s).map tx))) := Ex.new n12
      refine ⟨dT (wd L s), dT (wd L s), dp_txs (x12 _ _ h11), dp_txs upd_same, shW, shW, false, ne_self shW, iteF ?_⟩
      exact ⟨_, _, _, _, rfl, x9.trans (e11.trans x12)⟩
    · obtain ⟨y3, y4, y5, y6, rfl, a3⟩ := hp
      exact q _ (x6'.trans a3)
end
end K04
set_option Elab.async false
set_option linter.all false
set_option maxRecDepth 100000
set_option maxHeartbeats 8000000
namespace K04
open PySem PySem.Spec PyProof.Rows L2 Evl Bx
open Px Lx Rx Dx
/-! ### texts and what is none -/
def isT (z : Str) : Bool := decide (z = mk []) || (Txt.isascii z && (Txt.isalpha z && Txt.islower z))
inductive Kind (K : PySem.W.Frag) (H : Hp) : V → Bool → Prop
  | txt (z : Str) : Kind K H (.str z) (isT z)
  | non : Kind K H .non false
  | int (i : Int) : Kind K H (.int i) false
  | bl (b : Bool) : Kind K H (.bl b) false
  | lst {a : Addr} {xs : List V} (h : H a = some (.lst xs)) : Kind K H (.ref a) false
  | tup {a : Addr} {xs : List V} (h : H a = some (.tup xs)) : Kind K H (.ref a) false
  | dK {a : Addr} {xs : List (Key × V)} (h : H a = some (.dK xs)) : Kind K H (.ref a) false
theorem Kind.ex {K : PySem.W.Frag} {H H' : Hp} {v : V} {b : Bool} (h : Kind K H v b) (e : Ex H H') : Kind K H' v b := by
  cases h with
  | txt z => exact .txt z
  | non => exact .non
  | int i => exact .int i
  | bl b => exact .bl b
  | lst h => exact .lst (e _ _ h)
  | tup h => exact .tup (e _ _ h)
  | dK h => exact .dK (e _ _ h)
theorem Kind.ty {K : PySem.W.Frag} {H : Hp} {v : V} {b : Bool} (h : Kind K H v b) : (∃ z, v = .str z ∧ b = isT z) ∨ (b = false ∧ ∃ t, TyX K H v (.type t) ∧ kitB t "str" = some false) := by
  cases h with
  | txt z => exact .inl ⟨z, rfl, rfl⟩
  | non => exact .inr ⟨rfl, _, .base .non, by decide +kernel⟩
  | int i => exact .inr ⟨rfl, _, .base (.int _), by decide +kernel⟩
  | bl b => exact .inr ⟨rfl, _, .base (.bl _), by decide +kernel⟩
  | lst h => exact .inr ⟨rfl, _, .base (.lst h), by decide +kernel⟩
  | tup h => exact .inr ⟨rfl, _, .base (.tup h), by decide +kernel⟩
  | dK h => exact .inr ⟨rfl, _, .base (.dK h), by decide +kernel⟩
theorem isT_low {l : List Nat} (h : Low l) : isT (mk l) = true := by
  unfold isT
  by_cases n : l = []
  · rw [n, decide_eq_true rfl]
    rfl
  · rw [low_ascii h, low_alpha h n, low_lower h n]
    simp
theorem kind_low {K : PySem.W.Frag} {H : Hp} {l : List Nat} (h : Low l) : Kind K H (tx l) true := by
  have := Kind.txt (K := K) (H := H) (mk l)
  rwa [isT_low h] at this
def perm1 {α : Type} : List α → List α → List α
  | [], [a] => [a]
  | _, _ => []
theorem rel1 {vs : List V} {us : List Value} {zs : List V} {ws : List Value} (r : Vals vs us) (rz : Vals zs ws) : Vals (perm1 vs zs) (perm1 us ws) := by
  cases r with
  | nil =>
    cases rz with
    | nil => exact .nil
    | cons r1 rz =>
      cases rz with
      | nil => exact .cons r1 .nil
      | cons r2 rz => exact .nil
  | cons r1 r => exact .nil
section
variable {P : Program} {w : World} {K : PySem.W.Frag} {mg : Str → Option Value} {base : Heap}
theorem kb_is_text_0_value (T : Tx K mg) : KBinds K T.fd_is_text ["value"] ["value"] perm1 perm1 := by
  obtain ⟨oc, od, kV, doc, pm, an, cdv, ct, osl, hfd, lk, hcd⟩ := T.F_is_text.ex
  refine ⟨fun s us ws _ hl => ?_, rel1⟩
  rw [hfd]
  match us, ws, hl with
  | [], [a], _ => exact .of_eq rfl
theorem kb_is_alphabet_0_value (T : Tx K mg) : KBinds K T.fd_is_alphabet ["value"] ["value"] perm1 perm1 := by
  obtain ⟨oc, od, kV, doc, pm, an, cdv, ct, osl, hfd, lk, hcd⟩ := T.F_is_alphabet.ex
  refine ⟨fun s us ws _ hl => ?_, rel1⟩
  rw [hfd]
  match us, ws, hl with
  | [], [a], _ => exact .of_eq rfl
theorem kb_is_over_0_value_letters (T : Tx K mg) : KBinds K T.fd_is_over ["letters", "value"] ["value", "letters"] perm2 perm2 := by
  obtain ⟨oc, od, kV, doc, pm, an, cdv, ct, osl, hfd, lk, hcd⟩ := T.F_is_over.ex
  refine ⟨fun s us ws _ hl => ?_, rel2⟩
  rw [hfd]
  match us, ws, hl with
  | [], [a, b], _ => exact .of_eq rfl
def sp2_is_text (K : PySem.W.Frag) : Sp := fun vs H Q _ => ∃ v b, vs = [v] ∧ Kind K H v b ∧ Q (.bl b) H
theorem ok2_is_text (T : Tx K mg) : FnOk P w K mg base CX0 1 T.a_is_text T.fd_is_text ["value"] (sp2_is_text K) := by
  refine T.F_is_text.ok sc_is_text (fun vs H Q E h => ?_) (fun cdv A outer s H vs Q E hr h => ?_)
  · obtain ⟨_, _, rfl, _⟩ := h
    rfl
  · obtain ⟨v, b, rfl, hk, q⟩ := h
    refine ⟨_, (pss_cons (ps_if (pt_not (pt_val (pe_callB call_isi (by rfl) T.n_isinstance (by decide +kernel) (pa_cons (pv 0) (pa_cons (pe_bltn (v := .ty "str") (u := .type "str") (by rfl) T.n_str (by decide +kernel) rfl) pa_nil))))) (pss_one (ps_ret pe_bl)) pss_nil) (pss_one (ps_ret (pe_or (pe_cmpR op_eq (pv 0) pe_str (nomark _)) (pe_one (pe_and (pe_m0 PySem.F.slot_str_isascii PySem.F.type_str_isascii mt_isascii (pv 0)) (pe_and (pe_m0 PySem.F.slot_str_isalpha PySem.F.type_str_isalpha mt_isalpha (pv 0)) (pe_one (pe_m0 PySem.F.slot_str_islower PySem.F.type_str_islower mt_islower (pv 0)))))))))), ?_⟩
    rcases hk.ty with ⟨z, rfl, rfl⟩ | ⟨rfl, t, ty, ht⟩
    · refine ⟨_, rfl, _, _, .type "str", _, true, rfl, .ty _, .base (.str _), kit_ty (by decide +kernel), true, rfl, iteF ?_⟩
      refine ⟨_, rfl, rfl, _, rfl, ?_⟩
      have em : V.str (PySem.Str.ofString "") = V.str (mk []) := by rfl
      rw [em]
      unfold isT at q
      by_cases n : z = mk []
      · have e1 : decide (V.str z = V.str (mk [])) = true := decide_eq_true (by rw [n])
        rw [e1]
        rw [decide_eq_true n] at q
        exact iteT q
      · have e1 : decide (V.str z = V.str (mk [])) = false := decide_eq_false fun h => n (V.str.inj h)
        rw [e1]
        rw [decide_eq_false n, Bool.false_or] at q
        refine iteF ⟨_, rfl, ⟨_, rfl⟩, _, rfl, rfl, trivial, _, rfl, ?_⟩
        cases a1 : Txt.isascii z with
        | false =>
          rw [a1, Bool.false_and] at q
          exact iteF q
        | true =>
          rw [a1, Bool.true_and] at q
          refine iteT ⟨_, rfl, ⟨_, rfl⟩, _, rfl, rfl, trivial, _, rfl, ?_⟩
          cases a2 : Txt.isalpha z with
          | false =>
            rw [a2, Bool.false_and] at q
            exact iteF q
          | true =>
            rw [a2, Bool.true_and] at q
            exact iteT ⟨_, rfl, ⟨_, rfl⟩, _, rfl, rfl, trivial, q⟩
    · exact ⟨_, rfl, _, _, .type t, .type "str", false, rfl, .ty _, ty, kit_ty ht, false, rfl, iteT q⟩
/-- a value, and whether it is an alphabet -/
def AlK (K : PySem.W.Frag) (H : Hp) (v : V) (b : Bool) : Prop := (Kind K H v false ∧ b = false) ∨ ∃ l, v = tx l ∧ Low l ∧ l.length ≤ 1000 ∧ ((b = true ∧ Alph l) ∨ (b = false ∧ (l.length = 0 ∨ 4 < l.length ∨ ¬ l.Pairwise (· < ·))))
def sp2_is_alphabet (K : PySem.W.Frag) : Sp := fun vs H Q _ => ∃ v b, vs = [v] ∧ AlK K H v b ∧ ∀ H', Ex H H' → Q (.bl b) H'
theorem signs_up {l : List Nat} {ns : List Str} (h : l.map (fun c => mk [c]) = ns) (n : ns.Nodup) (s : sortedS ns = true) : l.Pairwise (· < ·) := by
  subst h
  have a := sorted_all s
  rw [List.pairwise_map] at a
  unfold List.Nodup at n
  rw [List.pairwise_map] at n
  refine (a.and n).imp fun {x y} ⟨h1, h2⟩ => ?_
  have h3 : ¬ (y < x) := fun z => by
    have h4 : [x] ≤ [y] := h1
    exact absurd (List.cons_lt_cons_iff.mpr (.inl z)) (List.not_lt.mpr h4)
  have h5 : x ≠ y := fun e => h2 (by rw [e])
  omega
theorem ok2_is_alphabet (T : Tx K mg) : FnOk P w K mg base CX0 2 T.a_is_alphabet T.fd_is_alphabet ["value"] (sp2_is_alphabet K) := by
  refine T.F_is_alphabet.ok sc_is_alphabet (fun vs H Q E h => ?_) (fun cdv A outer s H vs Q E hr h => ?_)
  · obtain ⟨_, _, rfl, _⟩ := h
    rfl
  · obtain ⟨v, b, rfl, hk, q⟩ := h
    refine ⟨_, (pss_cons (ps_if (PW.pt (pw_or (pt_not (pt_val (pe_call (ok2_is_text T) (hr.mono (by decide)) (by rfl) T.g_is_text T.F_is_text.kp (b_is_text T) .nil pass0 (pa_cons (pv 0) pa_nil)))) (pw_or1 (pt_not (pt_chain op_le op_le pe_int (pe_callB call_len_str (by rfl) T.n_len (by decide +kernel) (pa_cons (pv 0) pa_nil)) (pe_glob (v := .int 4) (by rfl) T.c_MOST_IN_ALPHABET ⟨_, rfl⟩)))))) (pss_one (ps_ret pe_bl)) pss_nil) (pss_one (ps_ret (pe_cmpR (op_eqD hr.units) (pe_callTy (Rx.cr_listS rfl) (by rfl) T.n_list (by decide +kernel) (pa_cons (pv 0) pa_nil)) (pe_callB (Sx.cr_sortT rfl) (by rfl) T.n_sorted (by decide +kernel) (pa_cons (pe_callTy (Sx.cr_setS rfl) (by rfl) T.n_set (by decide +kernel) (pa_cons (pv 0) pa_nil)) pa_nil)) (nomark _))))), ?_⟩
    rcases hk with ⟨hk, rfl⟩ | ⟨L, rfl, hL, lL, hb⟩
    · exact ⟨_, rfl, v, false, rfl, hk, false, rfl, iteT (q H (Ex.refl H))⟩
    refine ⟨_, rfl, tx L, true, rfl, kind_low hL, true, rfl, iteF ?_⟩
    refine ⟨_, rfl, mk L, rfl, by rw [mk_len]; exact sz_of (by omega), 1, _, rfl, rfl, decide (1 ≤ L.length), by rw [mk_len]; exact congrArg V.bl (decide_eq_decide.mpr (by omega)), ?_⟩
    by_cases h0 : L.length = 0
    · rw [decide_eq_false (by omega)]
      have : b = false := by
        rcases hb with ⟨_, h⟩ | ⟨h, _⟩
        · have := h.one
          omega
        · exact h
      subst this
      exact iteF ⟨false, rfl, iteT (q H (Ex.refl H))⟩
    rw [decide_eq_true (by omega)]
    refine iteT ⟨_, _, rfl, rfl, decide (L.length ≤ 4), by rw [mk_len]; exact congrArg V.bl (decide_eq_decide.mpr (by omega)), ?_⟩
    by_cases h4 : 4 < L.length
    · rw [decide_eq_false (by omega)]
      have : b = false := by
        rcases hb with ⟨_, h⟩ | ⟨h, _⟩
        · have := h.four
          omega
        · exact h
      subst this
      exact iteT (q H (Ex.refl H))
    rw [decide_eq_true (by omega)]
    refine iteF ?_
    refine ⟨_, rfl, mk L, rfl, by show L.toArray.size ≤ _; simp; omega, fun p1 n1 => ?_⟩
    refine ⟨_, rfl, mk L, rfl, hL.asc, by show L.toArray.size ≤ _; simp; omega, fun p2 n2 => ?_⟩
    have ul := Sx.uniq_len (Sx.sgs (mk L)) []
    rw [List.length_nil, Nat.zero_add, sgs_mk, List.length_map] at ul
    refine ⟨p2, Sx.uniq [] (Sx.sgs (mk L)), rfl, upd_same, Sx.uniq_nodup _ _ List.nodup_nil, by rw [sgs_mk]; omega, fun ns p3 hp hs n3 => ?_⟩
    rw [sgs_mk] at hp ⊢
    have x1 : Ex H (upd H p1 (.lst ((L.map fun c => mk [c]).map V.str))) := Ex.new n1
    have x2 := Ex.new n2 (o := Sx.SetT P w p2 (Sx.uniq [] (L.map fun c => mk [c])))
    have x3 := Ex.new n3 (o := .lst (ns.map V.str))
    have g1 := x3 _ _ (x2 _ _ (upd_same (H := H) (a := p1) (o := .lst ((L.map fun c => mk [c]).map V.str))))
    have low1 : ∀ z ∈ L.map (fun c => mk [c]), Low z.cps.toList := fun z hz => by
      obtain ⟨c, hc, rfl⟩ := List.mem_map.mp hz
      intro d hd
      rw [mk_list, List.mem_singleton] at hd
      rw [hd]
      exact hL c hc
    have low2 : ∀ z ∈ ns, Low z.cps.toList := fun z hz => by
      have h1 := (Sx.uniq_mem _ _ _).mp (hp.mem_iff.mp hz)
      rcases h1 with h1 | h1
      · cases h1
      · exact low1 z h1
    have nn : ns.Nodup := hp.nodup_iff.mpr (Sx.uniq_nodup _ _ List.nodup_nil)
    refine ⟨.list ((L.map fun c => mk [c]).map .str), .list (ns.map .str), .lst (.inl (.inl g1)) (dpAll_strs _), .lst (.inl (.inl upd_same)) (dpAll_strs _), shaped_strs _ low1, shaped_strs _ low2, ?_⟩
    show Q (.bl (PyData.eqvAll _ _)) _
    rw [eqvAll_strs]
    have fin := q _ (x1.trans (x2.trans x3))
    rcases hb with ⟨rfl, al⟩ | ⟨rfl, no⟩
    · have nd := signs_nodup (lt_nodup al.up)
      rw [uniq_id _ [] nd, List.nil_append] at hp
      have en := sorted_one hp hs (signs_sorted al.up)
      rw [decide_eq_true en.symm]
      exact fin
    · rw [decide_eq_false fun e => ?_]
      · exact fin
      · have := signs_up e nn hs
        rcases no with no | no | no
        · exact h0 no
        · exact h4 no
        · exact no this
def sp2_stands (K : PySem.W.Frag) : Sp := fun vs H Q _ => ∃ (L : List Nat) (v : V) (b : Bool), vs = [tx L, v] ∧ L.length ≤ 1000 ∧ ((Kind K H v false ∧ b = false) ∨ ∃ t, v = tx t ∧ Low t ∧ t.length ≤ 1000 ∧ b = over L t) ∧ ∀ H', Ex H H' → Q (.bl b) H'
theorem ok2_stands_over (T : Tx K mg) : FnOk P w K mg base CX0 2 T.a_stands_over T.fd_stands_over ["letters", "value"] (sp2_stands K) := by
  refine T.F_stands_over.ok sc_stands_over (fun vs H Q E h => ?_) (fun cdv A outer s H vs Q E hr h => ?_)
  · obtain ⟨_, _, _, rfl, _⟩ := h
    rfl
  · obtain ⟨L, v, b, rfl, lL, hk, q⟩ := h
    refine ⟨_, (pss_one (ps_ret (pe_and (pe_call (ok2_is_text T) (hr.mono (by decide)) (by rfl) T.g_is_text T.F_is_text.kp (b_is_text T) .nil pass0 (pa_cons (pv 1) pa_nil)) (pe_one (pe_callB (cr_all rfl) (by rfl) T.n_all (by decide +kernel) (pa_cons (pe_lc (own := [("sign", 2)]) (g := (gName 2)) (tt := tYes) rfl sc_stands_over.nd (pi_str (pv 1)) (blkOk_by (own := [("sign", 2)]) (N := N_stands_over) (sc := defScope s_stands_over) (by decide +kernel)) (fun _ _ _ _ _ => (pg_name (i := 2) sc_stands_over.nd rfl (by first | exact Or.inl rfl | exact Or.inr rfl))) (fun _ _ _ _ _ => pts_nil) (fun _ _ _ _ _ => (pe_cmpR op_in_sign (pv 2) (pv 0) rfl))) pa_nil)))))), ?_⟩
    rcases hk with ⟨hk, rfl⟩ | ⟨t, rfl, ht, lt, rfl⟩
    · exact ⟨_, rfl, v, false, rfl, hk, false, rfl, iteF (q H (Ex.refl H))⟩
    refine ⟨_, rfl, tx t, true, rfl, kind_low ht, true, rfl, iteT ?_⟩
    refine ⟨_, rfl, mk t, rfl, fun D nD => ?_⟩
    refine lc_it (walk_str (z := mk t)) (fun i H' => Ex H H' ∧ H' D = some (.lst (((t.take i).map fun c => decide (c ∈ L)).map V.bl))) ⟨Ex.new nD, upd_same⟩ (fun _ _ _ _ => trivial) (fun i x Ha Hb hi hp y => ?_) (fun Ha hp => ?_)
    · obtain ⟨rfl, c, hc, rfl⟩ := y
      have hc' : t[i]? = some c := by rw [← hc]; simp
      have hit : i < t.length := (List.getElem?_eq_some_iff.mp hc').1
      have et : t.take (i + 1) = t.take i ++ [c] := by rw [List.take_add_one, hc']; rfl
      refine ⟨rfl, ?_⟩
      refine ⟨_, rfl, _, rfl, c, mk L, rfl, rfl, _, hp.2, by rw [List.length_map, List.length_map, List.length_take]; exact sz_lt (by omega), Ex.mut hp.1 nD, ?_⟩
      rw [upd_same, et, List.map_append, List.map_append, mk_list]
      rfl
    · have e0 : (mk t).cps.size = t.length := mk_len t
      obtain ⟨h1, h2⟩ := hp
      rw [e0, List.take_of_length_le (Nat.le_refl _)] at h2
      refine ⟨D, _, rfl, .inl (.inl h2), ?_⟩
      have e : (t.map fun c => decide (c ∈ L)).all id = over L t := by
        unfold over
        rw [List.all_map]
        rfl
      rw [e]
      exact q Ha h1
def sp2_over (K : PySem.W.Frag) : Sp := fun vs H Q _ => ∃ (L : List Nat) (v : V) (b : Bool), vs = [tx L, v] ∧ Alph L ∧ ((Kind K H v false ∧ b = false) ∨ ∃ t, v = tx t ∧ Low t ∧ t.length ≤ 1000 ∧ b = over L t) ∧ ∀ H', Ex H H' → Q (.bl b) H'
theorem ok2_is_over (T : Tx K mg) : FnOk P w K mg base CX0 4 T.a_is_over T.fd_is_over ["letters", "value"] (sp2_over K) := by
  refine T.F_is_over.ok sc_is_over (fun vs H Q E h => ?_) (fun cdv A outer s H vs Q E hr h => ?_)
  · obtain ⟨_, _, _, rfl, _⟩ := h
    rfl
  · obtain ⟨L, v, b, rfl, aL, hk, q⟩ := h
    refine ⟨_, (pss_cons (ps_expr (pe_call (ok_need_letters T) (hr.mono (by decide)) (by rfl) T.g_need_letters T.F_need_letters.kp (b_need_letters T) .nil pass0 (pa_cons (pv 0) pa_nil))) (pss_one (ps_ret (pe_call (ok2_stands_over T) (hr.mono (by decide)) (by rfl) T.g_stands_over T.F_stands_over.kp (b_stands_over T) .nil pass0 (pa_cons (pv 0) (pa_cons (pv 1) pa_nil)))))), ?_⟩
    have l4 := aL.four
    refine ⟨_, rfl, L, rfl, aL, fun H1 e1 => ?_⟩
    refine ⟨_, rfl, _, rfl, L, v, b, rfl, by omega, ?_, fun H2 e2 => q H2 (e1.trans e2)⟩
    rcases hk with ⟨hk, rfl⟩ | hk
    · exact .inl ⟨hk.ex e1, rfl⟩
    · exact .inr hk
end
end K04
set_option Elab.async false
set_option linter.all false
set_option maxRecDepth 100000
set_option maxHeartbeats 8000000
namespace K04
open PySem PySem.Spec PyProof.Rows L2 Evl Bx
open Px Lx Rx Dx
theorem kindT {K : PySem.W.Frag} {H : Hp} {z : Str} {b : Bool} (h : isT z = b) : Kind K H (.str z) b := h ▸ .txt z
theorem low_rep {l : List Nat} (h : Low l) (k : Nat) : Low (List.replicate k l).flatten := fun c hc => by
  obtain ⟨m, hm, hc⟩ := List.mem_flatten.mp hc
  rw [List.eq_of_mem_replicate hm] at hc
  exact h c hc
theorem rep_len (l : List Nat) (k : Nat) : (List.replicate k l).flatten.length = k * l.length := by
  rw [List.length_flatten]
  simp
theorem over_rep (L : List Nat) (k : Nat) : over L (List.replicate k L).flatten = true := over_true fun c hc => by
  obtain ⟨m, hm, hc⟩ := List.mem_flatten.mp hc
  rwa [List.eq_of_mem_replicate hm] at hc
/-- n times True -/
abbrev yes (n : Nat) : List V := List.replicate n (.bl true)
theorem yes_two (n : Nat) : yes n ++ [V.bl true, V.bl true] = yes (n + 2) := List.replicate_append_replicate (m := 2)
theorem yes_one (n : Nat) : yes n ++ [V.bl true] = yes (n + 1) := List.replicate_append_replicate (m := 1)
section
variable {P : Program} {w : World} {K : PySem.W.Frag} {mg : Str → Option Value} {base : Heap}
def sp_kinds (K : PySem.W.Frag) : Sp := fun vs H Q _ => ∃ (L : List Nat), vs = [tx L] ∧ Alph L ∧ ∀ H', Ex H H' → Q (.bl true) H'
theorem ok__law_kinds_right (T : Tx K mg) : FnOk P w K mg base CX0 5 T.a__law_kinds_right T.fd__law_kinds_right ["_law_letters"] (sp_kinds K) := by
  refine T.F__law_kinds_right.ok sc__law_kinds_right (fun vs H Q E h => ?_) (fun cdv A outer s H vs Q E hr h => ?_)
  · obtain ⟨_, rfl, _⟩ := h
    rfl
  · obtain ⟨L, rfl, aL, q⟩ := h
    refine ⟨_, (pss_cons (ps_set (i := 1) sc__law_kinds_right.nd rfl (by first | exact Or.inl rfl | exact Or.inr rfl) (pe_lst (pa_cons (pe_call (ok2_is_text T) (hr.mono (by decide)) (by rfl) T.g_is_text T.F_is_text.kp (b_is_text T) .nil pass0 (pa_cons pe_str pa_nil)) (pa_cons (pe_call (ok2_is_text T) (hr.mono (by decide)) (by rfl) T.g_is_text T.F_is_text.kp (b_is_text T) .nil pass0 (pa_cons pe_str pa_nil)) (pa_cons (pe_call (ok2_is_text T) (hr.mono (by decide)) (by rfl) T.g_is_text T.F_is_text.kp (b_is_text T) .nil pass0 (pa_cons (pe_op Bx.op_repS pe_str pe_int) pa_nil)) (pa_cons (pe_call (ok2_is_alphabet T) (hr.mono (by decide)) (by rfl) T.g_is_alphabet T.F_is_alphabet.kp (b_is_alphabet T) .nil pass0 (pa_cons (pv 0) pa_nil)) pa_nil)))))) (pss_cons (ps_set (i := 1) sc__law_kinds_right.nd rfl (by first | exact Or.inl rfl | exact Or.inr rfl) (pe_op op_cat (pv 1) (pe_lst (pa_cons (pe_call (ok2_is_over T) (hr.mono (by decide)) (by rfl) T.g_is_over T.F_is_over.kp (b_is_over T) .nil pass0 (pa_cons (pv 0) (pa_cons (pe_op Bx.op_repS (pv 0) pe_int) pa_nil))) (pa_cons (pe_call (ok2_is_over T) (hr.mono (by decide)) (by rfl) T.g_is_over T.F_is_over.kp (b_is_over T) .nil pass0 (pa_cons pe_str (pa_cons pe_str pa_nil))) pa_nil))))) (pss_cons (ps_for PassesOwn.never rfl (pi_list (pe_lst (pa_cons pe_non (pa_cons pe_int (pa_cons (pe_lst pa_nil) (pa_cons (pe_tup pa_nil) (pa_cons pe_dnewK (pa_cons pe_bl (pa_cons pe_str (pa_cons pe_str (pa_cons pe_str (pa_cons pe_str (pa_cons pe_str (pa_cons (pe_lst (pa_cons pe_str pa_nil)) (pa_cons (pe_tup (pa_cons pe_str pa_nil)) (pa_cons pe_str pa_nil)))))))))))))))) (pg_name (i := 2) sc__law_kinds_right.nd rfl (by first | exact Or.inl rfl | exact Or.inr rfl)) (pss_cons (ps_set (i := 1) sc__law_kinds_right.nd rfl (by first | exact Or.inl rfl | exact Or.inr rfl) (pe_op op_cat (pv 1) (pe_lst (pa_cons (pe_cmpR op_isBl (pe_callK0 (ok2_is_text T) (hr.mono (by decide)) (by rfl) T.g_is_text T.F_is_text.kp (kb_is_text_0_value T) pass0 (pk_cons (pv 2) pk_nil)) pe_bl (nomark _)) (pa_cons (pe_cmpR op_isBl (pe_callK0 (ok2_is_alphabet T) (hr.mono (by decide)) (by rfl) T.g_is_alphabet T.F_is_alphabet.kp (kb_is_alphabet_0_value T) pass0 (pk_cons (pv 2) pk_nil)) pe_bl (nomark _)) pa_nil))))) (pss_one (ps_expr (pe_bm PySem.F.plainAttrs_list PySem.F.slot_list_append PySem.F.type_list_append mt_append (pv 1) (pa_cons (pe_cmpR op_isBl (pe_callK0 (ok2_is_over T) (hr.mono (by decide)) (by rfl) T.g_is_over T.F_is_over.kp (kb_is_over_0_value_letters T) pass0 (pk_cons (pv 2) (pk_cons (pv 0) pk_nil))) pe_bl (nomark _)) pa_nil)))))) (pss_cons (ps_for PassesOwn.never rfl (pi_list (pe_lst (pa_cons pe_str (pa_cons pe_str (pa_cons pe_str (pa_cons pe_str (pa_cons pe_str (pa_cons (pe_op op_add_str (pv 0) (pv 0)) pa_nil)))))))) (pg_name (i := 2) sc__law_kinds_right.nd rfl (by first | exact Or.inl rfl | exact Or.inr rfl)) (pss_one (ps_expr (pe_bm PySem.F.plainAttrs_list PySem.F.slot_list_append PySem.F.type_list_append mt_append (pv 1) (pa_cons (pe_cmpR op_isBl (pe_call (ok2_is_alphabet T) (hr.mono (by decide)) (by rfl) T.g_is_alphabet T.F_is_alphabet.kp (b_is_alphabet T) .nil pass0 (pa_cons (pv 2) pa_nil)) pe_bl (nomark _)) pa_nil))))) (pss_cons (ps_set (i := 1) sc__law_kinds_right.nd rfl (by first | exact Or.inl rfl | exact Or.inr rfl) (pe_op op_cat (pv 1) (pe_lst (pa_cons (pe_cmpR op_isBl (pe_call (ok2_is_over T) (hr.mono (by decide)) (by rfl) T.g_is_over T.F_is_over.kp (b_is_over T) .nil pass0 (pa_cons pe_str (pa_cons pe_str pa_nil))) pe_bl (nomark _)) (pa_cons (pe_cmpR op_isBl (pe_call (ok2_is_over T) (hr.mono (by decide)) (by rfl) T.g_is_over T.F_is_over.kp (b_is_over T) .nil pass0 (pa_cons pe_str (pa_cons pe_str pa_nil))) pe_bl (nomark _)) pa_nil))))) (pss_one (ps_ret (pe_cmpR (op_eqD hr.units) (pe_lc (own := [("_law_item", 3)]) (g := (gName 3))  rfl sc__law_kinds_right.nd (pi_list (pv 1)) (blkOk_by (own := [("_law_item", 3)]) (N := N__law_kinds_right) (sc := defScope s__law_kinds_right) (by decide +kernel)) (fun _ _ _ _ _ => (pg_name (i := 3) sc__law_kinds_right.nd rfl (by first | exact Or.inl rfl | exact Or.inr rfl))) (fun _ _ _ _ _ => (pts_one (pt_cmpR op_notBl (pv 3) pe_bl (nomark _)))) (fun _ _ _ _ _ => (pv 3))) (pe_lst pa_nil) (nomark _))))))))), ?_⟩
    have l4 := aL.four
    have l1 := aL.one
    have lowx : Low [120] := fun c hc => by
      rw [List.mem_singleton.mp hc]
      decide
    have low1 : Low [97] := fun c hc => by
      rw [List.mem_singleton.mp hc]
      decide
    refine ⟨_, true, rfl, kindT (by decide +kernel), _, true, rfl, kindT (by decide +kernel), [97], 301, by rfl, by rfl, by decide, by decide, _, true, rfl, kind_low (low_rep low1 301), ?_⟩
    refine ⟨_, rfl, tx L, true, rfl, .inr ⟨L, rfl, aL.low, by omega, .inl ⟨rfl, aL⟩⟩, fun H1 e1 => ⟨by show 4 ≤ sizeLine; decide, fun p1 n1 => ?_⟩⟩
    refine ⟨_, rfl, _, rfl, _, rfl, L, 3, rfl, by rfl, by omega, by decide, L, _, true, rfl, aL, .inr ⟨_, rfl, low_rep aL.low 3, by rw [rep_len]; omega, (over_rep L 3).symm⟩, fun H2 e2 => ?_⟩
    refine ⟨[120], tx [], true, by rfl, ⟨lowx, by decide, by decide, by decide⟩, .inr ⟨[], rfl, Low.nil, by decide, rfl⟩, fun H3 e3 => ⟨by show 2 ≤ sizeLine; decide, fun p2 n2 => ?_⟩⟩
    have g1 : H3 p1 = some (.lst (yes 4)) := e3 _ _ (e2 _ _ upd_same)
    have g2 : upd H3 p2 (.lst [V.bl true, V.bl true]) p1 = some (.lst (yes 4)) := Ex.new n2 _ _ g1
    refine ⟨p1, p2, _, _, rfl, rfl, g2, upd_same, by show 4 + 2 ≤ sizeLine; decide, fun p3 n3 => ?_⟩
    have x3 : Ex H (upd (upd H3 p2 (.lst [V.bl true, V.bl true])) p3 (.lst (yes 4 ++ [V.bl true, V.bl true]))) := (e1.trans (Ex.new n1)).trans ((e2.trans e3).trans ((Ex.new n2).trans (Ex.new n3)))
    have g3 : upd (upd H3 p2 (.lst [V.bl true, V.bl true])) p3 (.lst (yes 4 ++ [V.bl true, V.bl true])) p3 = some (.lst (yes 6)) := upd_same
    generalize upd (upd H3 p2 (.lst [V.bl true, V.bl true])) p3 (.lst (yes 4 ++ [V.bl true, V.bl true])) = Ha at x3 g3 ⊢
    have f3 : H p3 = none := fresh_back ((e1.trans (Ex.new n1)).trans ((e2.trans e3).trans (Ex.new n2))) n3
    -- the odd values
    refine ⟨by show 0 ≤ sizeLine; decide, fun q1 m1 => ?_⟩
    refine ⟨by show 0 ≤ sizeLine; decide, fun q2 m2 => ?_⟩
    refine fun q3 m3 => ?_
    refine ⟨by show 1 ≤ sizeLine; decide, fun q4 m4 => ?_⟩
    refine ⟨by show 1 ≤ sizeLine; decide, fun q5 m5 => ?_⟩
    refine ⟨by show 14 ≤ sizeLine; decide, fun q6 m6 => ?_⟩
    have y1 := Ex.new m1 (o := .lst [])
    have y2 := Ex.new m2 (o := .tup [])
    have y3 := Ex.new m3 (o := .dK [])
    have y4 := Ex.new m4 (o := .lst [V.str (Str.ofString "a")])
    have y5 := Ex.new m5 (o := .tup [V.str (Str.ofString "a")])
    have y6 := Ex.new m6 (o := .lst [.non, .int 7, .ref q1, .ref q2, .ref q3, .bl true, .str (Str.ofString "A"), .str (Str.ofString "a b"), .str (Str.ofString "ab1"), .str (Str.ofString " "), .str (Str.ofString "a\n"), .ref q4, .ref q5, .str (Str.ofString "ab-")])
    have z2 := y2.trans (y3.trans (y4.trans (y5.trans y6)))
    have z3 := y3.trans (y4.trans (y5.trans y6))
    have z4 := y4.trans (y5.trans y6)
    have z5 := y5.trans y6
    have k1 := z2 _ _ (upd_same (H := Ha) (a := q1) (o := .lst []))
    have k2 := z3 _ _ (upd_same (H := upd Ha q1 (.lst [])) (a := q2) (o := .tup []))
    have k3 := z4 _ _ (upd_same (H := upd (upd Ha q1 (.lst [])) q2 (.tup [])) (a := q3) (o := .dK []))
    have k4 := z5 _ _ (upd_same (H := upd (upd (upd Ha q1 (.lst [])) q2 (.tup [])) q3 (.dK [])) (a := q4) (o := .lst [V.str (Str.ofString "a")]))
    have k5 := y6 _ _ (upd_same (H := upd (upd (upd (upd Ha q1 (.lst [])) q2 (.tup [])) q3 (.dK [])) q4 (.lst [V.str (Str.ofString "a")])) (a := q5) (o := .tup [V.str (Str.ofString "a")]))
    have k6 := upd_same (H := upd (upd (upd (upd (upd Ha q1 (.lst [])) q2 (.tup [])) q3 (.dK [])) q4 (.lst [V.str (Str.ofString "a")])) q5 (.tup [V.str (Str.ofString "a")])) (a := q6) (o := .lst [.non, .int 7, .ref q1, .ref q2, .ref q3, .bl true, .str (Str.ofString "A"), .str (Str.ofString "a b"), .str (Str.ofString "ab1"), .str (Str.ofString " "), .str (Str.ofString "a\n"), .ref q4, .ref q5, .str (Str.ofString "ab-")])
    have xb := y1.trans z2
    generalize upd (upd (upd (upd (upd (upd Ha q1 (.lst [])) q2 (.tup [])) q3 (.dK [])) q4 (.lst [V.str (Str.ofString "a")])) q5 (.tup [V.str (Str.ofString "a")])) q6 (.lst [.non, .int 7, .ref q1, .ref q2, .ref q3, .bl true, .str (Str.ofString "A"), .str (Str.ofString "a b"), .str (Str.ofString "ab1"), .str (Str.ofString " "), .str (Str.ofString "a\n"), .ref q4, .ref q5, .str (Str.ofString "ab-")]) = Hb at k1 k2 k3 k4 k5 k6 xb ⊢
    have kinds : ∀ x ∈ [V.non, .int 7, .ref q1, .ref q2, .ref q3, .bl true, .str (Str.ofString "A"), .str (Str.ofString "a b"), .str (Str.ofString "ab1"), .str (Str.ofString " "), .str (Str.ofString "a\n"), .ref q4, .ref q5, .str (Str.ofString "ab-")], Kind K Hb x false := by
      intro x hx
      simp only [List.mem_cons, List.not_mem_nil, or_false] at hx
      rcases hx with rfl | rfl | rfl | rfl | rfl | rfl | rfl | rfl | rfl | rfl | rfl | rfl | rfl | rfl
      · exact .non
      · exact .int _
      · exact .lst k1
      · exact .tup k2
      · exact .dK k3
      · exact .bl _
      · exact kindT (by decide +kernel)
      · exact kindT (by decide +kernel)
      · exact kindT (by decide +kernel)
      · exact kindT (by decide +kernel)
      · exact kindT (by decide +kernel)
      · exact .lst k4
      · exact .tup k5
      · exact kindT (by decide +kernel)
    clear y1 y2 y3 y4 y5 y6 z2 z3 z4 z5 k1 k2 k3 k4 k5
    generalize hit : [V.non, .int 7, .ref q1, .ref q2, .ref q3, .bl true, .str (Str.ofString "A"), .str (Str.ofString "a b"), .str (Str.ofString "ab1"), .str (Str.ofString " "), .str (Str.ofString "a\n"), .ref q4, .ref q5, .str (Str.ofString "ab-")] = its at k6 kinds
    have il : its.length = 14 := by rw [← hit]; rfl
    refine ⟨q6, rfl, ⟨_, .inl (.inl k6)⟩, ?_⟩
    refine for_list (xs := its) (fun i σ' H' => ∃ pd y2 y3, σ' = [some (tx L), some (.ref pd), y2, y3] ∧ Ex Hb H' ∧ H' pd = some (.lst (yes (6 + 3 * i))) ∧ H pd = none) ⟨_, _, _, rfl, Ex.refl Hb, xb _ _ g3, f3⟩ (fun i σ' H' _ ⟨_, _, _, _, e, _⟩ => .inl (.inl (e _ _ k6))) (fun i x σ' H' hx hp => ?_) (fun σ' H' hp => ?_)
    · obtain ⟨pd, y2, y3, rfl, a1, a2, a3⟩ := hp
      have hi : i < 14 := by rw [← il]; exact (List.getElem?_eq_some_iff.mp hx).1
      have kx := (kinds x (List.mem_of_getElem? hx)).ex a1
      refine ⟨_, rfl, _, rfl, x, false, rfl, kx, _, _, rfl, rfl, ?_⟩
      refine ⟨_, rfl, x, false, rfl, .inl ⟨kx, rfl⟩, fun H4 e4 => ⟨_, _, rfl, rfl, by show 2 ≤ sizeLine; decide, fun p4 n4 => ?_⟩⟩
      refine ⟨pd, p4, _, _, rfl, rfl, Ex.new n4 _ _ (e4 _ _ a2), upd_same, by rw [List.length_replicate]; exact sz_of (by show _ + 2 ≤ _; omega), fun p5 n5 => ?_⟩
      have e5 : Ex Hb (upd (upd H4 p4 (.lst [V.bl (decide (false = false)), V.bl (decide (false = false))])) p5 (.lst (yes (6 + 3 * i) ++ [V.bl (decide (false = false)), V.bl (decide (false = false))]))) := (a1.trans e4).trans ((Ex.new n4).trans (Ex.new n5))
      have fp5 : Hb p5 = none := fresh_back (a1.trans (e4.trans (Ex.new n4))) n5
      have g5 : upd (upd H4 p4 (.lst [V.bl (decide (false = false)), V.bl (decide (false = false))])) p5 (.lst (yes (6 + 3 * i) ++ [V.bl (decide (false = false)), V.bl (decide (false = false))])) p5 = some (.lst (yes (6 + 3 * i + 2))) := by
        rw [upd_same]
        exact congrArg (fun z => some (HO.lst z)) (yes_two _)
      generalize upd (upd H4 p4 (.lst [V.bl (decide (false = false)), V.bl (decide (false = false))])) p5 (.lst (yes (6 + 3 * i) ++ [V.bl (decide (false = false)), V.bl (decide (false = false))])) = H5 at e5 g5
      refine ⟨_, rfl, .inl ⟨rfl, _, .inl (.inl g5)⟩, _, rfl, _, rfl, L, x, false, rfl, aL, .inl ⟨(kinds x (List.mem_of_getElem? hx)).ex e5, rfl⟩, fun H6 e6 => ⟨_, _, rfl, rfl, p5, _, _, rfl, rfl, e6 _ _ g5, by rw [List.length_replicate]; exact sz_lt (by omega), ?_⟩⟩
      refine ⟨p5, _, _, rfl, Ex.mut (e5.trans e6) fp5, ?_, fresh_back (x3.trans xb) fp5⟩
      rw [upd_same]
      exact congrArg (fun z => some (HO.lst z)) (yes_one _)
    · obtain ⟨pd, y2, y3, rfl, a1, a2, a3⟩ := hp
      rw [il] at a2
      have low4 : ∀ l : List Nat, (l.all fun c => decide (97 ≤ c) && decide (c ≤ 122)) = true → Low l := fun l h c hc => by
        have := List.all_eq_true.mp h c hc
        rw [Bool.and_eq_true] at this
        exact ⟨of_decide_eq_true this.1, of_decide_eq_true this.2⟩
      have lowLL : Low (L ++ L) := aL.low.app aL.low
      refine ⟨_, rfl, _, rfl, mk L, mk L, rfl, rfl, by rw [mk_len]; exact sz_of (by omega), ?_⟩
      rw [mk_app]
      refine ⟨by show 6 ≤ sizeLine; decide, fun q7 m7 => ?_⟩
      have x7 := Ex.new m7 (o := .lst [.str (Str.ofString ""), .str (Str.ofString "abcde"), .str (Str.ofString "aa"), .str (Str.ofString "ba"), .str (Str.ofString "abdc"), tx (L ++ L)])
      have k7 := upd_same (H := H') (a := q7) (o := .lst [.str (Str.ofString ""), .str (Str.ofString "abcde"), .str (Str.ofString "aa"), .str (Str.ofString "ba"), .str (Str.ofString "abdc"), tx (L ++ L)])
      have fq7 := m7
      generalize upd H' q7 (.lst [.str (Str.ofString ""), .str (Str.ofString "abcde"), .str (Str.ofString "aa"), .str (Str.ofString "ba"), .str (Str.ofString "abdc"), tx (L ++ L)]) = Hc at x7 k7 ⊢
      have nos : ∀ x ∈ [V.str (Str.ofString ""), .str (Str.ofString "abcde"), .str (Str.ofString "aa"), .str (Str.ofString "ba"), .str (Str.ofString "abdc"), tx (L ++ L)], ∀ H, AlK K H x false := by
        intro x hx H
        simp only [List.mem_cons, List.not_mem_nil, or_false] at hx
        rcases hx with rfl | rfl | rfl | rfl | rfl | rfl
        · exact .inr ⟨[], by rfl, Low.nil, by decide, .inr ⟨rfl, .inl rfl⟩⟩
        · exact .inr ⟨[97, 98, 99, 100, 101], by rfl, low4 _ (by decide), by decide, .inr ⟨rfl, .inr (.inl (by decide))⟩⟩
        · exact .inr ⟨[97, 97], by rfl, low4 _ (by decide), by decide, .inr ⟨rfl, .inr (.inr (by decide))⟩⟩
        · exact .inr ⟨[98, 97], by rfl, low4 _ (by decide), by decide, .inr ⟨rfl, .inr (.inr (by decide))⟩⟩
        · exact .inr ⟨[97, 98, 100, 99], by rfl, low4 _ (by decide), by decide, .inr ⟨rfl, .inr (.inr (by decide))⟩⟩
        · refine .inr ⟨L ++ L, rfl, lowLL, by rw [List.length_append]; omega, .inr ⟨rfl, .inr (.inr fun h => ?_)⟩⟩
          have h3 := (List.pairwise_append.mp h).2.2
          obtain ⟨c, hc⟩ : ∃ c, c ∈ L := List.exists_mem_of_length_pos (by omega)
          have := h3 c hc c hc
          omega
      generalize hjt : [V.str (Str.ofString ""), .str (Str.ofString "abcde"), .str (Str.ofString "aa"), .str (Str.ofString "ba"), .str (Str.ofString "abdc"), tx (L ++ L)] = jts at k7 nos
      have jl : jts.length = 6 := by rw [← hjt]; rfl
      have fpd : H pd ≠ none → True := fun _ => trivial
      refine ⟨q7, rfl, ⟨_, .inl (.inl k7)⟩, ?_⟩
      refine for_list (xs := jts) (fun i σ' H2 => ∃ y2 y3, σ' = [some (tx L), some (.ref pd), y2, y3] ∧ Xg pd Hc H2 ∧ H2 pd = some (.lst (yes (48 + i)))) ⟨_, _, rfl, Xg.refl pd Hc, x7 _ _ a2⟩ (fun i σ' H2 _ ⟨_, _, _, e, _⟩ => .inl (.inl (e _ _ (fun z => by rw [z] at fq7; rw [a2] at fq7; cases fq7) k7))) (fun i x σ' H2 hx hp => ?_) (fun σ' H2 hp => ?_)
      · obtain ⟨y2, y3, rfl, b1, b2⟩ := hp
        have hi : i < 6 := by rw [← jl]; exact (List.getElem?_eq_some_iff.mp hx).1
        refine ⟨_, rfl, .inl ⟨rfl, _, .inl (.inl b2)⟩, _, rfl, x, false, rfl, nos x (List.mem_of_getElem? hx) H2, fun H3 e3 => ⟨_, _, rfl, rfl, pd, _, _, rfl, rfl, e3 _ _ b2, by rw [List.length_replicate]; exact sz_lt (by omega), ?_⟩⟩
        refine ⟨_, _, rfl, (b1.ex e3).upd, ?_⟩
        rw [upd_same]
        exact congrArg (fun z => some (HO.lst z)) (yes_one _)
      · obtain ⟨y2, y3, rfl, b1, b2⟩ := hp
        rw [jl] at b2
        have ab : Alph [97, 98] := ⟨low4 _ (by decide), by decide, by decide, by decide⟩
        have bd : Alph [98, 100] := ⟨low4 _ (by decide), by decide, by decide, by decide⟩
        refine ⟨_, rfl, [97, 98], tx [97, 98, 99], false, by rfl, ab, .inr ⟨_, rfl, low4 _ (by decide), by decide, by decide⟩, fun H3 e3 => ⟨_, _, rfl, rfl, ?_⟩⟩
        refine ⟨[98, 100], tx [99], false, by rfl, bd, .inr ⟨_, rfl, low4 _ (by decide), by decide, by decide⟩, fun H4 e4 => ⟨_, _, rfl, rfl, by show 2 ≤ sizeLine; decide, fun p4 n4 => ?_⟩⟩
        refine ⟨pd, p4, _, _, rfl, rfl, Ex.new n4 _ _ (e4 _ _ (e3 _ _ b2)), upd_same, by show 54 + 2 ≤ sizeLine; decide, fun p5 n5 => ?_⟩
        have xf : Ex H H2 := fun a o h => b1 a o (fun z => by rw [z, a3] at h; cases h) (x7 _ _ (a1 _ _ (xb _ _ (x3 _ _ h))))
        have e5 := xf.trans ((e3.trans e4).trans ((Ex.new n4 (o := .lst [V.bl (decide (false = false)), V.bl (decide (false = false))])).trans (Ex.new n5 (o := .lst (yes 54 ++ [V.bl (decide (false = false)), V.bl (decide (false = false))])))))
        have g5 : upd (upd H4 p4 (.lst [V.bl (decide (false = false)), V.bl (decide (false = false))])) p5 (.lst (yes 54 ++ [V.bl (decide (false = false)), V.bl (decide (false = false))])) p5 = some (.lst (yes 56)) := by
          rw [upd_same]
          exact congrArg (fun z => some (HO.lst z)) (yes_two _)
        have g5' := g5
        refine ⟨_, rfl, p5, rfl, ⟨_, .inl (.inl g5)⟩, fun D nD => ?_⟩
        refine lc_list (xs := yes 56) (fun i H' => Ex (upd (upd H4 p4 (.lst [V.bl (decide (false = false)), V.bl (decide (false = false))])) p5 (.lst (yes 54 ++ [V.bl (decide (false = false)), V.bl (decide (false = false))]))) H' ∧ H' D = some (.lst [])) ⟨Ex.new nD, upd_same⟩ (fun j H' _ hp => .inl (.inl (hp.1 _ _ g5'))) (fun i x H' hx hp => ?_) (fun H' hp => ?_)
        · have : x = V.bl true := List.eq_of_mem_replicate (List.mem_of_getElem? hx)
          subst this
          exact ⟨rfl, _, rfl, _, _, rfl, rfl, _, rfl, iteF hp⟩
        · obtain ⟨c1, c2⟩ := hp
          refine ⟨by show 0 ≤ sizeLine; decide, fun p6 n6 => ?_⟩
          have c2' : H' D = some (.lst (([] : List Int).map V.int)) := c2
          refine ⟨dI [], dI [], dp_ints (Ex.new n6 _ _ c2'), dp_ints (by rw [upd_same]; rfl), sh_ints [], sh_ints [], ?_⟩
          rw [Dx.eq_self (sh_ints [])]
          exact q _ (e5.trans (c1.trans (Ex.new n6)))
end
end K04
set_option Elab.async false
set_option linter.all false
set_option maxRecDepth 100000
set_option maxHeartbeats 8000000
namespace K04
open PySem PySem.Spec PyProof.Rows L2 Evl Bx
open Px Lx Rx Dx
section
variable {P : Program} {w : World} {K : PySem.W.Frag} {mg : Str → Option Value} {base : Heap}
theorem num_300 : ∀ (n : Nat), num 1 (List.replicate n 0) 0 = n := fun n => by
  rw [num_one _ _ (fun i hi => by rw [List.eq_of_mem_replicate hi]; decide), List.length_replicate, Nat.zero_add]
def sp_law (K : PySem.W.Frag) : Sp := fun vs H Q _ => ∃ (a : Addr) (ns : List Int), vs = [.ref a] ∧ SqL K H a (ns.map V.int) ∧ ns.length ≤ 63 ∧ ∀ H', Q (.bl true) H'
theorem ok_law (T : Tx K mg) : FnOk P w K mg base CX0 6 T.a_law T.fd_law ["_law_script"] (sp_law K) := by
  refine T.F_law.ok sc_law (fun vs H Q E h => ?_) (fun cdv A outer s H vs Q E hr h => ?_)
  · obtain ⟨_, _, rfl, _⟩ := h
    rfl
  · obtain ⟨a, ns, rfl, hS, hl, q⟩ := h
    refine ⟨_, (pss_cons (ps_for PassesOwn.never rfl (pi_range1 (by rfl) T.n_range (pa_cons pe_int pa_nil)) (pg_name (i := 1) sc_law.nd rfl (by first | exact Or.inl rfl | exact Or.inr rfl)) (pss_cons (ps_set (i := 2) sc_law.nd rfl (by first | exact Or.inl rfl | exact Or.inr rfl) (pe_call (ok__law_generator T) (hr.mono (by decide)) (by rfl) T.g__law_generator T.F__law_generator.kp (b__law_generator T) .nil pass0 (pa_cons (pv 0) (pa_cons (pv 1) pa_nil)))) (pss_cons (ps_set (i := 3) sc_law.nd rfl (by first | exact Or.inl rfl | exact Or.inr rfl) (pe_call (ok__law_alphabet T) (hr.mono (by decide)) (by rfl) T.g__law_alphabet T.F__law_alphabet.kp (b__law_alphabet T) .nil pass0 (pa_cons (pv 2) (pa_cons pe_int pa_nil)))) (pss_cons (ps_if (PW.pt (pw_or (pt_not (pt_val (pe_call (ok__law_few_right T) (hr.mono (by decide)) (by rfl) T.g__law_few_right T.F__law_few_right.kp (b__law_few_right T) .nil pass0 (pa_cons (pv 3) pa_nil)))) (pw_or1 (pt_not (pt_val (pe_call (ok__law_far_right T) (hr.mono (by decide)) (by rfl) T.g__law_far_right T.F__law_far_right.kp (b__law_far_right T) .nil pass0 (pa_cons (pv 2) (pa_cons (pv 3) pa_nil)))))))) (pss_one (ps_ret pe_bl)) pss_nil) (pss_one (ps_if (PW.pt (pw_or (pt_not (pt_val (pe_call (ok__law_pairs_right T) (hr.mono (by decide)) (by rfl) T.g__law_pairs_right T.F__law_pairs_right.kp (b__law_pairs_right T) .nil pass0 (pa_cons (pv 2) (pa_cons (pv 3) pa_nil))))) (pw_or1 (pt_not (pt_val (pe_call (ok__law_kinds_right T) (hr.mono (by decide)) (by rfl) T.g__law_kinds_right T.F__law_kinds_right.kp (b__law_kinds_right T) .nil pass0 (pa_cons (pv 3) pa_nil))))))) (pss_one (ps_ret pe_bl)) pss_nil)))))) (pss_one (ps_ret (pe_and (pe_cmpR op_eq (pe_call (ok_text_numbered T) (hr.mono (by decide)) (by rfl) T.g_text_numbered T.F_text_numbered.kp (b_text_numbered T) .nil pass0 (pa_cons pe_str (pa_cons pe_int pa_nil))) (pe_op Bx.op_repS pe_str pe_int) (nomark _)) (pe_one (pe_cmpR op_eq (pe_call (ok_text_number T) (hr.mono (by decide)) (by rfl) T.g_text_number T.F_text_number.kp (b_text_number T) .nil pass0 (pa_cons pe_str (pa_cons pe_str pa_nil))) pe_int (nomark _))))))), ?_⟩
    refine ⟨3, rfl, by decide, by decide, for_range (lo := 0) (n := 3) (fun i σ H2 => ∃ y1 y2 y3, σ = [some (.ref a), y1, y2, y3] ∧ Ex H H2) ⟨_, _, _, rfl, Ex.refl H⟩ (fun i σ H2 hi hp => ?_) (fun σ H2 hp => ?_)⟩
    · obtain ⟨y1, y2, y3, rfl, e2⟩ := hp
      have e0 : (0 : Int) + (i : Nat) = (i : Nat) := Int.zero_add _
      rw [e0]
      refine ⟨_, rfl, _, rfl, a, ns, i, rfl, ex_l e2 hS, by omega, fun g H3 e3 g0 g3 => ?_⟩
      refine ⟨_, rfl, g, 1, _, rfl, by decide, by decide, g3, by omega, fun L H4 aL l1 x4 g4 => ?_⟩
      refine ⟨_, rfl, L, rfl, aL, fun H5 e5 => ⟨true, rfl, iteF ?_⟩⟩
      refine ⟨_, rfl, _, rfl, g, L, _, rfl, aL, g4.ex e5, by omega, fun H6 x6 g6 => ⟨true, rfl, iteF ?_⟩⟩
      refine ⟨_, rfl, _, rfl, g, L, _, rfl, aL, g6, by omega, fun H7 x7 g7 => ⟨true, rfl, iteF ?_⟩⟩
      refine ⟨_, rfl, L, rfl, aL, fun H8 e8 => ⟨true, rfl, iteF ⟨_, _, _, rfl, fun b o hb => ?_⟩⟩⟩
      have hb2 := e2 b o hb
      have ng : b ≠ g := fun z => by
        rw [z] at hb2
        rw [hb2] at g0
        cases g0
      exact e8 b o (x7 b o ng (x6 b o ng (e5 b o (x4 b o ng (e3 b o hb2)))))
    · obtain ⟨y1, y2, y3, rfl, e2⟩ := hp
      have az : Alph [122] := ⟨fun c hc => by rw [List.mem_singleton.mp hc]; decide, by decide, by decide, by decide⟩
      have abcd : Alph [97, 98, 99, 100] := ⟨fun c hc => by simp at hc; omega, by decide, by decide, by decide⟩
      have ix : ixs [122] (List.replicate 300 122) = List.replicate 300 0 := by
        unfold ixs
        rw [List.map_replicate]
        rfl
      refine ⟨[122], List.replicate 300 122, ?_, az, fun c hc => by rw [List.eq_of_mem_replicate hc]; exact List.mem_singleton.mpr rfl, by rw [List.length_replicate]; decide, fun H3 e3 => ?_⟩
      · rw [ix]
        show _ = [tx [122], V.int ((num 1 (List.replicate 300 0) 0 : Nat) : Int)]
        rw [num_300]
        rfl
      refine ⟨[122], 300, by rfl, by rfl, by decide, by decide, ?_⟩
      have fl : (List.replicate 300 [122]).flatten = List.replicate 300 122 := List.flatten_replicate_singleton
      rw [fl]
      refine ⟨rfl, _, rfl, ?_⟩
      rw [decide_eq_true rfl]
      refine iteT ?_
      refine ⟨[97, 98, 99, 100], [], by rfl, abcd, (fun c hc => absurd hc List.not_mem_nil), by decide, fun H4 e4 => ⟨rfl, ?_⟩⟩
      exact q _
end
theorem all_mk {l : PySem.W.OpenLaw} {w : World} {K : PySem.W.Frag} {h : Heap} {mg : Str → Option Value} {fa : Addr} {f_0 f_1 f_2 f_3 f_4 f_5 f_6 f_7 f_8 f_9 f_10 f_11 f_12 f_13 f_14 f_15 f_16 f_17 f_18 f_19 f_20 f_21 f_22 f_23 f_24 f_25 f_26 f_27 f_28 f_29 f_30 f_31 : Addr} (X : K.In h) (G : h.Ns mainGlobals mg) (hfa : mg "law" = some (.ref fa))
    {od_0 an_0 : Option Addr} {sl_0 : Array (Option Value)} {oc_0 kV_0 dc_0 pm_0 cd_0 ct_0 : Value}
    (p_0 : PySem.W.nsIn K mainGlobals "_law_cell" = some (some (.ref f_0))) (l_0 : K.lookup f_0 = some ⟨oc_0, od_0, .func (PySem.W.fnOf "_law_cell" "_law_cell" (defArgs s__law_cell) (defBody s__law_cell) (defScope s__law_cell) .none kV_0 dc_0 pm_0 an_0 cd_0 ct_0), sl_0⟩) (c_0 : PySem.W.codeIn K cd_0 "_law_cell" = true) (k_0 : PySem.W.keepIn K (.ref f_0) = true)
    {od_1 an_1 : Option Addr} {sl_1 : Array (Option Value)} {oc_1 kV_1 dc_1 pm_1 cd_1 ct_1 : Value}
    (p_1 : PySem.W.nsIn K mainGlobals "_law_generator" = some (some (.ref f_1))) (l_1 : K.lookup f_1 = some ⟨oc_1, od_1, .func (PySem.W.fnOf "_law_generator" "_law_generator" (defArgs s__law_generator) (defBody s__law_generator) (defScope s__law_generator) .none kV_1 dc_1 pm_1 an_1 cd_1 ct_1), sl_1⟩) (c_1 : PySem.W.codeIn K cd_1 "_law_generator" = true) (k_1 : PySem.W.keepIn K (.ref f_1) = true)
    {od_2 an_2 : Option Addr} {sl_2 : Array (Option Value)} {oc_2 kV_2 dc_2 pm_2 cd_2 ct_2 : Value}
    (p_2 : PySem.W.nsIn K mainGlobals "_law_hash" = some (some (.ref f_2))) (l_2 : K.lookup f_2 = some ⟨oc_2, od_2, .func (PySem.W.fnOf "_law_hash" "_law_hash" (defArgs s__law_hash) (defBody s__law_hash) (defScope s__law_hash) .none kV_2 dc_2 pm_2 an_2 cd_2 ct_2), sl_2⟩) (c_2 : PySem.W.codeIn K cd_2 "_law_hash" = true) (k_2 : PySem.W.keepIn K (.ref f_2) = true)
    {od_3 an_3 : Option Addr} {sl_3 : Array (Option Value)} {oc_3 kV_3 dc_3 pm_3 cd_3 ct_3 : Value}
    (p_3 : PySem.W.nsIn K mainGlobals "_law_random" = some (some (.ref f_3))) (l_3 : K.lookup f_3 = some ⟨oc_3, od_3, .func (PySem.W.fnOf "_law_random" "_law_random" (defArgs s__law_random) (defBody s__law_random) (defScope s__law_random) .none kV_3 dc_3 pm_3 an_3 cd_3 ct_3), sl_3⟩) (c_3 : PySem.W.codeIn K cd_3 "_law_random" = true) (k_3 : PySem.W.keepIn K (.ref f_3) = true)
    {od_4 an_4 : Option Addr} {sl_4 : Array (Option Value)} {oc_4 kV_4 dc_4 pm_4 cd_4 ct_4 : Value}
    (p_4 : PySem.W.nsIn K mainGlobals "_law_alphabet" = some (some (.ref f_4))) (l_4 : K.lookup f_4 = some ⟨oc_4, od_4, .func (PySem.W.fnOf "_law_alphabet" "_law_alphabet" (defArgs s__law_alphabet) (defBody s__law_alphabet) (defScope s__law_alphabet) .none kV_4 dc_4 pm_4 an_4 cd_4 ct_4), sl_4⟩) (c_4 : PySem.W.codeIn K cd_4 "_law_alphabet" = true) (k_4 : PySem.W.keepIn K (.ref f_4) = true)
    {od_5 an_5 : Option Addr} {sl_5 : Array (Option Value)} {oc_5 kV_5 dc_5 pm_5 cd_5 ct_5 : Value}
    (p_5 : PySem.W.nsIn K mainGlobals "is_text" = some (some (.ref f_5))) (l_5 : K.lookup f_5 = some ⟨oc_5, od_5, .func (PySem.W.fnOf "is_text" "is_text" (defArgs s_is_text) (defBody s_is_text) (defScope s_is_text) .none kV_5 dc_5 pm_5 an_5 cd_5 ct_5), sl_5⟩) (c_5 : PySem.W.codeIn K cd_5 "is_text" = true) (k_5 : PySem.W.keepIn K (.ref f_5) = true)
    {od_6 an_6 : Option Addr} {sl_6 : Array (Option Value)} {oc_6 kV_6 dc_6 pm_6 cd_6 ct_6 : Value}
    (p_6 : PySem.W.nsIn K mainGlobals "is_alphabet" = some (some (.ref f_6))) (l_6 : K.lookup f_6 = some ⟨oc_6, od_6, .func (PySem.W.fnOf "is_alphabet" "is_alphabet" (defArgs s_is_alphabet) (defBody s_is_alphabet) (defScope s_is_alphabet) .none kV_6 dc_6 pm_6 an_6 cd_6 ct_6), sl_6⟩) (c_6 : PySem.W.codeIn K cd_6 "is_alphabet" = true) (k_6 : PySem.W.keepIn K (.ref f_6) = true)
    {od_7 an_7 : Option Addr} {sl_7 : Array (Option Value)} {oc_7 kV_7 dc_7 pm_7 cd_7 ct_7 : Value}
    (p_7 : PySem.W.nsIn K mainGlobals "need_letters" = some (some (.ref f_7))) (l_7 : K.lookup f_7 = some ⟨oc_7, od_7, .func (PySem.W.fnOf "need_letters" "need_letters" (defArgs s_need_letters) (defBody s_need_letters) (defScope s_need_letters) .none kV_7 dc_7 pm_7 an_7 cd_7 ct_7), sl_7⟩) (c_7 : PySem.W.codeIn K cd_7 "need_letters" = true) (k_7 : PySem.W.keepIn K (.ref f_7) = true)
    {od_8 an_8 : Option Addr} {sl_8 : Array (Option Value)} {oc_8 kV_8 dc_8 pm_8 cd_8 ct_8 : Value}
    (p_8 : PySem.W.nsIn K mainGlobals "greatest_exponent" = some (some (.ref f_8))) (l_8 : K.lookup f_8 = some ⟨oc_8, od_8, .func (PySem.W.fnOf "greatest_exponent" "greatest_exponent" (defArgs s_greatest_exponent) (defBody s_greatest_exponent) (defScope s_greatest_exponent) .none kV_8 dc_8 pm_8 an_8 cd_8 ct_8), sl_8⟩) (c_8 : PySem.W.codeIn K cd_8 "greatest_exponent" = true) (k_8 : PySem.W.keepIn K (.ref f_8) = true)
    {od_9 an_9 : Option Addr} {sl_9 : Array (Option Value)} {oc_9 kV_9 dc_9 pm_9 cd_9 ct_9 : Value}
    (p_9 : PySem.W.nsIn K mainGlobals "size_of_numbered" = some (some (.ref f_9))) (l_9 : K.lookup f_9 = some ⟨oc_9, od_9, .func (PySem.W.fnOf "size_of_numbered" "size_of_numbered" (defArgs s_size_of_numbered) (defBody s_size_of_numbered) (defScope s_size_of_numbered) .none kV_9 dc_9 pm_9 an_9 cd_9 ct_9), sl_9⟩) (c_9 : PySem.W.codeIn K cd_9 "size_of_numbered" = true) (k_9 : PySem.W.keepIn K (.ref f_9) = true)
    {od_10 an_10 : Option Addr} {sl_10 : Array (Option Value)} {oc_10 kV_10 dc_10 pm_10 cd_10 ct_10 : Value}
    (p_10 : PySem.W.nsIn K mainGlobals "is_whole" = some (some (.ref f_10))) (l_10 : K.lookup f_10 = some ⟨oc_10, od_10, .func (PySem.W.fnOf "is_whole" "is_whole" (defArgs s_is_whole) (defBody s_is_whole) (defScope s_is_whole) .none kV_10 dc_10 pm_10 an_10 cd_10 ct_10), sl_10⟩) (c_10 : PySem.W.codeIn K cd_10 "is_whole" = true) (k_10 : PySem.W.keepIn K (.ref f_10) = true)
    {od_11 an_11 : Option Addr} {sl_11 : Array (Option Value)} {oc_11 kV_11 dc_11 pm_11 cd_11 ct_11 : Value}
    (p_11 : PySem.W.nsIn K mainGlobals "is_count" = some (some (.ref f_11))) (l_11 : K.lookup f_11 = some ⟨oc_11, od_11, .func (PySem.W.fnOf "is_count" "is_count" (defArgs s_is_count) (defBody s_is_count) (defScope s_is_count) .none kV_11 dc_11 pm_11 an_11 cd_11 ct_11), sl_11⟩) (c_11 : PySem.W.codeIn K cd_11 "is_count" = true) (k_11 : PySem.W.keepIn K (.ref f_11) = true)
    {od_12 an_12 : Option Addr} {sl_12 : Array (Option Value)} {oc_12 kV_12 dc_12 pm_12 cd_12 ct_12 : Value}
    (p_12 : PySem.W.nsIn K mainGlobals "text_numbered" = some (some (.ref f_12))) (l_12 : K.lookup f_12 = some ⟨oc_12, od_12, .func (PySem.W.fnOf "text_numbered" "text_numbered" (defArgs s_text_numbered) (defBody s_text_numbered) (defScope s_text_numbered) .none kV_12 dc_12 pm_12 an_12 cd_12 ct_12), sl_12⟩) (c_12 : PySem.W.codeIn K cd_12 "text_numbered" = true) (k_12 : PySem.W.keepIn K (.ref f_12) = true)
    {od_13 an_13 : Option Addr} {sl_13 : Array (Option Value)} {oc_13 kV_13 dc_13 pm_13 cd_13 ct_13 : Value}
    (p_13 : PySem.W.nsIn K mainGlobals "stands_over" = some (some (.ref f_13))) (l_13 : K.lookup f_13 = some ⟨oc_13, od_13, .func (PySem.W.fnOf "stands_over" "stands_over" (defArgs s_stands_over) (defBody s_stands_over) (defScope s_stands_over) .none kV_13 dc_13 pm_13 an_13 cd_13 ct_13), sl_13⟩) (c_13 : PySem.W.codeIn K cd_13 "stands_over" = true) (k_13 : PySem.W.keepIn K (.ref f_13) = true)
    {od_14 an_14 : Option Addr} {sl_14 : Array (Option Value)} {oc_14 kV_14 dc_14 pm_14 cd_14 ct_14 : Value}
    (p_14 : PySem.W.nsIn K mainGlobals "need_text_over" = some (some (.ref f_14))) (l_14 : K.lookup f_14 = some ⟨oc_14, od_14, .func (PySem.W.fnOf "need_text_over" "need_text_over" (defArgs s_need_text_over) (defBody s_need_text_over) (defScope s_need_text_over) .none kV_14 dc_14 pm_14 an_14 cd_14 ct_14), sl_14⟩) (c_14 : PySem.W.codeIn K cd_14 "need_text_over" = true) (k_14 : PySem.W.keepIn K (.ref f_14) = true)
    {od_15 an_15 : Option Addr} {sl_15 : Array (Option Value)} {oc_15 kV_15 dc_15 pm_15 cd_15 ct_15 : Value}
    (p_15 : PySem.W.nsIn K mainGlobals "number_of_text" = some (some (.ref f_15))) (l_15 : K.lookup f_15 = some ⟨oc_15, od_15, .func (PySem.W.fnOf "number_of_text" "number_of_text" (defArgs s_number_of_text) (defBody s_number_of_text) (defScope s_number_of_text) .none kV_15 dc_15 pm_15 an_15 cd_15 ct_15), sl_15⟩) (c_15 : PySem.W.codeIn K cd_15 "number_of_text" = true) (k_15 : PySem.W.keepIn K (.ref f_15) = true)
    {od_16 an_16 : Option Addr} {sl_16 : Array (Option Value)} {oc_16 kV_16 dc_16 pm_16 cd_16 ct_16 : Value}
    (p_16 : PySem.W.nsIn K mainGlobals "text_number" = some (some (.ref f_16))) (l_16 : K.lookup f_16 = some ⟨oc_16, od_16, .func (PySem.W.fnOf "text_number" "text_number" (defArgs s_text_number) (defBody s_text_number) (defScope s_text_number) .none kV_16 dc_16 pm_16 an_16 cd_16 ct_16), sl_16⟩) (c_16 : PySem.W.codeIn K cd_16 "text_number" = true) (k_16 : PySem.W.keepIn K (.ref f_16) = true)
    {od_17 an_17 : Option Addr} {sl_17 : Array (Option Value)} {oc_17 kV_17 dc_17 pm_17 cd_17 ct_17 : Value}
    (p_17 : PySem.W.nsIn K mainGlobals "_law_words" = some (some (.ref f_17))) (l_17 : K.lookup f_17 = some ⟨oc_17, od_17, .func (PySem.W.fnOf "_law_words" "_law_words" (defArgs s__law_words) (defBody s__law_words) (defScope s__law_words) .none kV_17 dc_17 pm_17 an_17 cd_17 ct_17), sl_17⟩) (c_17 : PySem.W.codeIn K cd_17 "_law_words" = true) (k_17 : PySem.W.keepIn K (.ref f_17) = true)
    {od_18 an_18 : Option Addr} {sl_18 : Array (Option Value)} {oc_18 kV_18 dc_18 pm_18 cd_18 ct_18 : Value}
    (p_18 : PySem.W.nsIn K mainGlobals "raised" = some (some (.ref f_18))) (l_18 : K.lookup f_18 = some ⟨oc_18, od_18, .func (PySem.W.fnOf "raised" "raised" (defArgs s_raised) (defBody s_raised) (defScope s_raised) .none kV_18 dc_18 pm_18 an_18 cd_18 ct_18), sl_18⟩) (c_18 : PySem.W.codeIn K cd_18 "raised" = true) (k_18 : PySem.W.keepIn K (.ref f_18) = true)
    {od_19 an_19 : Option Addr} {sl_19 : Array (Option Value)} {oc_19 kV_19 dc_19 pm_19 cd_19 ct_19 : Value}
    (p_19 : PySem.W.nsIn K mainGlobals "words_of_size" = some (some (.ref f_19))) (l_19 : K.lookup f_19 = some ⟨oc_19, od_19, .func (PySem.W.fnOf "words_of_size" "words_of_size" (defArgs s_words_of_size) (defBody s_words_of_size) (defScope s_words_of_size) .none kV_19 dc_19 pm_19 an_19 cd_19 ct_19), sl_19⟩) (c_19 : PySem.W.codeIn K cd_19 "words_of_size" = true) (k_19 : PySem.W.keepIn K (.ref f_19) = true)
    {od_20 an_20 : Option Addr} {sl_20 : Array (Option Value)} {oc_20 kV_20 dc_20 pm_20 cd_20 ct_20 : Value}
    (p_20 : PySem.W.nsIn K mainGlobals "is_from_to" = some (some (.ref f_20))) (l_20 : K.lookup f_20 = some ⟨oc_20, od_20, .func (PySem.W.fnOf "is_from_to" "is_from_to" (defArgs s_is_from_to) (defBody s_is_from_to) (defScope s_is_from_to) .none kV_20 dc_20 pm_20 an_20 cd_20 ct_20), sl_20⟩) (c_20 : PySem.W.codeIn K cd_20 "is_from_to" = true) (k_20 : PySem.W.keepIn K (.ref f_20) = true)
    {od_21 an_21 : Option Addr} {sl_21 : Array (Option Value)} {oc_21 kV_21 dc_21 pm_21 cd_21 ct_21 : Value}
    (p_21 : PySem.W.nsIn K mainGlobals "texts_of" = some (some (.ref f_21))) (l_21 : K.lookup f_21 = some ⟨oc_21, od_21, .func (PySem.W.fnOf "texts_of" "texts_of" (defArgs s_texts_of) (defBody s_texts_of) (defScope s_texts_of) .none kV_21 dc_21 pm_21 an_21 cd_21 ct_21), sl_21⟩) (c_21 : PySem.W.codeIn K cd_21 "texts_of" = true) (k_21 : PySem.W.keepIn K (.ref f_21) = true)
    {od_22 an_22 : Option Addr} {sl_22 : Array (Option Value)} {oc_22 kV_22 dc_22 pm_22 cd_22 ct_22 : Value}
    (p_22 : PySem.W.nsIn K mainGlobals "_law_few_right" = some (some (.ref f_22))) (l_22 : K.lookup f_22 = some ⟨oc_22, od_22, .func (PySem.W.fnOf "_law_few_right" "_law_few_right" (defArgs s__law_few_right) (defBody s__law_few_right) (defScope s__law_few_right) .none kV_22 dc_22 pm_22 an_22 cd_22 ct_22), sl_22⟩) (c_22 : PySem.W.codeIn K cd_22 "_law_few_right" = true) (k_22 : PySem.W.keepIn K (.ref f_22) = true)
    {od_23 an_23 : Option Addr} {sl_23 : Array (Option Value)} {oc_23 kV_23 dc_23 pm_23 cd_23 ct_23 : Value}
    (p_23 : PySem.W.nsIn K mainGlobals "_law_text" = some (some (.ref f_23))) (l_23 : K.lookup f_23 = some ⟨oc_23, od_23, .func (PySem.W.fnOf "_law_text" "_law_text" (defArgs s__law_text) (defBody s__law_text) (defScope s__law_text) .none kV_23 dc_23 pm_23 an_23 cd_23 ct_23), sl_23⟩) (c_23 : PySem.W.codeIn K cd_23 "_law_text" = true) (k_23 : PySem.W.keepIn K (.ref f_23) = true)
    {od_24 an_24 : Option Addr} {sl_24 : Array (Option Value)} {oc_24 kV_24 dc_24 pm_24 cd_24 ct_24 : Value}
    (p_24 : PySem.W.nsIn K mainGlobals "_law_yes" = some (some (.ref f_24))) (l_24 : K.lookup f_24 = some ⟨oc_24, od_24, .func (PySem.W.fnOf "_law_yes" "_law_yes" (defArgs s__law_yes) (defBody s__law_yes) (defScope s__law_yes) .none kV_24 dc_24 pm_24 an_24 cd_24 ct_24), sl_24⟩) (c_24 : PySem.W.codeIn K cd_24 "_law_yes" = true) (k_24 : PySem.W.keepIn K (.ref f_24) = true)
    {od_25 an_25 : Option Addr} {sl_25 : Array (Option Value)} {oc_25 kV_25 dc_25 pm_25 cd_25 ct_25 : Value}
    (p_25 : PySem.W.nsIn K mainGlobals "need_text" = some (some (.ref f_25))) (l_25 : K.lookup f_25 = some ⟨oc_25, od_25, .func (PySem.W.fnOf "need_text" "need_text" (defArgs s_need_text) (defBody s_need_text) (defScope s_need_text) .none kV_25 dc_25 pm_25 an_25 cd_25 ct_25), sl_25⟩) (c_25 : PySem.W.codeIn K cd_25 "need_text" = true) (k_25 : PySem.W.keepIn K (.ref f_25) = true)
    {od_26 an_26 : Option Addr} {sl_26 : Array (Option Value)} {oc_26 kV_26 dc_26 pm_26 cd_26 ct_26 : Value}
    (p_26 : PySem.W.nsIn K mainGlobals "is_ahead" = some (some (.ref f_26))) (l_26 : K.lookup f_26 = some ⟨oc_26, od_26, .func (PySem.W.fnOf "is_ahead" "is_ahead" (defArgs s_is_ahead) (defBody s_is_ahead) (defScope s_is_ahead) .none kV_26 dc_26 pm_26 an_26 cd_26 ct_26), sl_26⟩) (c_26 : PySem.W.codeIn K cd_26 "is_ahead" = true) (k_26 : PySem.W.keepIn K (.ref f_26) = true)
    {od_27 an_27 : Option Addr} {sl_27 : Array (Option Value)} {oc_27 kV_27 dc_27 pm_27 cd_27 ct_27 : Value}
    (p_27 : PySem.W.nsIn K mainGlobals "_law_far_right" = some (some (.ref f_27))) (l_27 : K.lookup f_27 = some ⟨oc_27, od_27, .func (PySem.W.fnOf "_law_far_right" "_law_far_right" (defArgs s__law_far_right) (defBody s__law_far_right) (defScope s__law_far_right) .none kV_27 dc_27 pm_27 an_27 cd_27 ct_27), sl_27⟩) (c_27 : PySem.W.codeIn K cd_27 "_law_far_right" = true) (k_27 : PySem.W.keepIn K (.ref f_27) = true)
    {od_28 an_28 : Option Addr} {sl_28 : Array (Option Value)} {oc_28 kV_28 dc_28 pm_28 cd_28 ct_28 : Value}
    (p_28 : PySem.W.nsIn K mainGlobals "_law_pairs_right" = some (some (.ref f_28))) (l_28 : K.lookup f_28 = some ⟨oc_28, od_28, .func (PySem.W.fnOf "_law_pairs_right" "_law_pairs_right" (defArgs s__law_pairs_right) (defBody s__law_pairs_right) (defScope s__law_pairs_right) .none kV_28 dc_28 pm_28 an_28 cd_28 ct_28), sl_28⟩) (c_28 : PySem.W.codeIn K cd_28 "_law_pairs_right" = true) (k_28 : PySem.W.keepIn K (.ref f_28) = true)
    {od_29 an_29 : Option Addr} {sl_29 : Array (Option Value)} {oc_29 kV_29 dc_29 pm_29 cd_29 ct_29 : Value}
    (p_29 : PySem.W.nsIn K mainGlobals "is_over" = some (some (.ref f_29))) (l_29 : K.lookup f_29 = some ⟨oc_29, od_29, .func (PySem.W.fnOf "is_over" "is_over" (defArgs s_is_over) (defBody s_is_over) (defScope s_is_over) .none kV_29 dc_29 pm_29 an_29 cd_29 ct_29), sl_29⟩) (c_29 : PySem.W.codeIn K cd_29 "is_over" = true) (k_29 : PySem.W.keepIn K (.ref f_29) = true)
    {od_30 an_30 : Option Addr} {sl_30 : Array (Option Value)} {oc_30 kV_30 dc_30 pm_30 cd_30 ct_30 : Value}
    (p_30 : PySem.W.nsIn K mainGlobals "_law_kinds_right" = some (some (.ref f_30))) (l_30 : K.lookup f_30 = some ⟨oc_30, od_30, .func (PySem.W.fnOf "_law_kinds_right" "_law_kinds_right" (defArgs s__law_kinds_right) (defBody s__law_kinds_right) (defScope s__law_kinds_right) .none kV_30 dc_30 pm_30 an_30 cd_30 ct_30), sl_30⟩) (c_30 : PySem.W.codeIn K cd_30 "_law_kinds_right" = true) (k_30 : PySem.W.keepIn K (.ref f_30) = true)
    {od_31 an_31 : Option Addr} {sl_31 : Array (Option Value)} {oc_31 kV_31 dc_31 pm_31 cd_31 ct_31 : Value}
    (p_31 : PySem.W.nsIn K mainGlobals "law" = some (some (.ref f_31))) (l_31 : K.lookup f_31 = some ⟨oc_31, od_31, .func (PySem.W.fnOf "law" "law" (defArgs s_law) (defBody s_law) (defScope s_law) .none kV_31 dc_31 pm_31 an_31 cd_31 ct_31), sl_31⟩) (c_31 : PySem.W.codeIn K cd_31 "law" = true) (k_31 : PySem.W.keepIn K (.ref f_31) = true)
    (z_0 : PySem.W.nsIn K mainGlobals "len" = some none)
    (z_1 : PySem.W.nsIn K mainGlobals "sum" = some none)
    (z_2 : PySem.W.nsIn K mainGlobals "int" = some none)
    (z_3 : PySem.W.nsIn K mainGlobals "max" = some none)
    (z_4 : PySem.W.nsIn K mainGlobals "range" = some none)
    (z_5 : PySem.W.nsIn K mainGlobals "isinstance" = some none)
    (z_6 : PySem.W.nsIn K mainGlobals "str" = some none)
    (z_7 : PySem.W.nsIn K mainGlobals "list" = some none)
    (z_8 : PySem.W.nsIn K mainGlobals "sorted" = some none)
    (z_9 : PySem.W.nsIn K mainGlobals "set" = some none)
    (z_10 : PySem.W.nsIn K mainGlobals "reversed" = some none)
    (z_11 : PySem.W.nsIn K mainGlobals "bool" = some none)
    (z_12 : PySem.W.nsIn K mainGlobals "all" = some none)
    {t_0 : Tok} (y_0 : PySem.W.nsIn K mainGlobals "MOST_IN_ALPHABET" = some (some (.int 4 t_0)))
    {t_1 : Tok} (y_1 : PySem.W.nsIn K mainGlobals "MOST_IN_TEXT" = some (some (.int 300 t_1)))
    {t_2 : Tok} (y_2 : PySem.W.nsIn K mainGlobals "MOST_TEXTS" = some (some (.int 2000 t_2)))
    : ∃ fd : FuncData, (∀ (s : Shared) (v : Value), BindsTo s fd ⟨[v], []⟩ [("_law_script", v)]) ∧ ∀ base : Heap, K.In base → base.Ns mainGlobals mg → FnOk l.prog w K mg base CX0 6 fa fd ["_law_script"] (sp_law K) := by
  have e := hfa.symm.trans (PySem.W.mg_of X G p_31)
  cases e
  have F_0 := fun_mk (st := s__law_cell) l_0 c_0 k_0
  have F_1 := fun_mk (st := s__law_generator) l_1 c_1 k_1
  have F_2 := fun_mk (st := s__law_hash) l_2 c_2 k_2
  have F_3 := fun_mk (st := s__law_random) l_3 c_3 k_3
  have F_4 := fun_mk (st := s__law_alphabet) l_4 c_4 k_4
  have F_5 := fun_mk (st := s_is_text) l_5 c_5 k_5
  have F_6 := fun_mk (st := s_is_alphabet) l_6 c_6 k_6
  have F_7 := fun_mk (st := s_need_letters) l_7 c_7 k_7
  have F_8 := fun_mk (st := s_greatest_exponent) l_8 c_8 k_8
  have F_9 := fun_mk (st := s_size_of_numbered) l_9 c_9 k_9
  have F_10 := fun_mk (st := s_is_whole) l_10 c_10 k_10
  have F_11 := fun_mk (st := s_is_count) l_11 c_11 k_11
  have F_12 := fun_mk (st := s_text_numbered) l_12 c_12 k_12
  have F_13 := fun_mk (st := s_stands_over) l_13 c_13 k_13
  have F_14 := fun_mk (st := s_need_text_over) l_14 c_14 k_14
  have F_15 := fun_mk (st := s_number_of_text) l_15 c_15 k_15
  have F_16 := fun_mk (st := s_text_number) l_16 c_16 k_16
  have F_17 := fun_mk (st := s__law_words) l_17 c_17 k_17
  have F_18 := fun_mk (st := s_raised) l_18 c_18 k_18
  have F_19 := fun_mk (st := s_words_of_size) l_19 c_19 k_19
  have F_20 := fun_mk (st := s_is_from_to) l_20 c_20 k_20
  have F_21 := fun_mk (st := s_texts_of) l_21 c_21 k_21
  have F_22 := fun_mk (st := s__law_few_right) l_22 c_22 k_22
  have F_23 := fun_mk (st := s__law_text) l_23 c_23 k_23
  have F_24 := fun_mk (st := s__law_yes) l_24 c_24 k_24
  have F_25 := fun_mk (st := s_need_text) l_25 c_25 k_25
  have F_26 := fun_mk (st := s_is_ahead) l_26 c_26 k_26
  have F_27 := fun_mk (st := s__law_far_right) l_27 c_27 k_27
  have F_28 := fun_mk (st := s__law_pairs_right) l_28 c_28 k_28
  have F_29 := fun_mk (st := s_is_over) l_29 c_29 k_29
  have F_30 := fun_mk (st := s__law_kinds_right) l_30 c_30 k_30
  have F_31 := fun_mk (st := s_law) l_31 c_31 k_31
  let T : Tx K mg := ⟨_, _, F_0, PySem.W.mg_of X G p_0, _, _, F_1, PySem.W.mg_of X G p_1, _, _, F_2, PySem.W.mg_of X G p_2, _, _, F_3, PySem.W.mg_of X G p_3, _, _, F_4, PySem.W.mg_of X G p_4, _, _, F_5, PySem.W.mg_of X G p_5, _, _, F_6, PySem.W.mg_of X G p_6, _, _, F_7, PySem.W.mg_of X G p_7, _, _, F_8, PySem.W.mg_of X G p_8, _, _, F_9, PySem.W.mg_of X G p_9, _, _, F_10, PySem.W.mg_of X G p_10, _, _, F_11, PySem.W.mg_of X G p_11, _, _, F_12, PySem.W.mg_of X G p_12, _, _, F_13, PySem.W.mg_of X G p_13, _, _, F_14, PySem.W.mg_of X G p_14, _, _, F_15, PySem.W.mg_of X G p_15, _, _, F_16, PySem.W.mg_of X G p_16, _, _, F_17, PySem.W.mg_of X G p_17, _, _, F_18, PySem.W.mg_of X G p_18, _, _, F_19, PySem.W.mg_of X G p_19, _, _, F_20, PySem.W.mg_of X G p_20, _, _, F_21, PySem.W.mg_of X G p_21, _, _, F_22, PySem.W.mg_of X G p_22, _, _, F_23, PySem.W.mg_of X G p_23, _, _, F_24, PySem.W.mg_of X G p_24, _, _, F_25, PySem.W.mg_of X G p_25, _, _, F_26, PySem.W.mg_of X G p_26, _, _, F_27, PySem.W.mg_of X G p_27, _, _, F_28, PySem.W.mg_of X G p_28, _, _, F_29, PySem.W.mg_of X G p_29, _, _, F_30, PySem.W.mg_of X G p_30, _, _, F_31, PySem.W.mg_of X G p_31, PySem.W.mg_none_of X G z_0, PySem.W.mg_none_of X G z_1, PySem.W.mg_none_of X G z_2, PySem.W.mg_none_of X G z_3, PySem.W.mg_none_of X G z_4, PySem.W.mg_none_of X G z_5, PySem.W.mg_none_of X G z_6, PySem.W.mg_none_of X G z_7, PySem.W.mg_none_of X G z_8, PySem.W.mg_none_of X G z_9, PySem.W.mg_none_of X G z_10, PySem.W.mg_none_of X G z_11, PySem.W.mg_none_of X G z_12, t_0, PySem.W.mg_of X G y_0, t_1, PySem.W.mg_of X G y_1, t_2, PySem.W.mg_of X G y_2⟩
  exact ⟨PySem.W.fnOf "law" "law" (defArgs s_law) (defBody s_law) (defScope s_law) .none kV_31 dc_31 pm_31 an_31 cd_31 ct_31, fun s v => .of_eq rfl, fun base _ _ => ok_law T⟩
end K04
open PySem PySem.W PyProof.Rows
set_option maxRecDepth 100000 in
set_option maxHeartbeats 0 in
theorem PySem.Challenge.cw_skipcounts_k04_whole_texts_numbered_holds : PySem.Challenge.rw_skipcounts_k04_whole_texts_numbered.Holds := by
  w_on; o_law; k_head; (case hw => w_witness2)
  k_fill
  refine L2.walk_of (l := PySem.Challenge.rw_skipcounts_k04_whole_texts_numbered) (n := 63) (k := 6) (x := "_law_script") (CX := fun _ => L2.CX0) (sp := fun w => K04.sp_law _) rfl (by decide) rfl ⟨rfl, by decide, by decide⟩ (fun w h Y => PySem.W.kIn_of Y) ?F (fun _ _ a ns hl _ hS => ⟨a, ns, rfl, hS, hl, fun _ => rfl⟩) (fun _ _ _ _ _ h => h)
  case F =>
    intro w mg fa h KX G hmg
    refine' K04.all_mk KX G hmg ?p_0 ?l_0 ?c_0 ?k_0 ?p_1 ?l_1 ?c_1 ?k_1 ?p_2 ?l_2 ?c_2 ?k_2 ?p_3 ?l_3 ?c_3 ?k_3 ?p_4 ?l_4 ?c_4 ?k_4 ?p_5 ?l_5 ?c_5 ?k_5 ?p_6 ?l_6 ?c_6 ?k_6 ?p_7 ?l_7 ?c_7 ?k_7 ?p_8 ?l_8 ?c_8 ?k_8 ?p_9 ?l_9 ?c_9 ?k_9 ?p_10 ?l_10 ?c_10 ?k_10 ?p_11 ?l_11 ?c_11 ?k_11 ?p_12 ?l_12 ?c_12 ?k_12 ?p_13 ?l_13 ?c_13 ?k_13 ?p_14 ?l_14 ?c_14 ?k_14 ?p_15 ?l_15 ?c_15 ?k_15 ?p_16 ?l_16 ?c_16 ?k_16 ?p_17 ?l_17 ?c_17 ?k_17 ?p_18 ?l_18 ?c_18 ?k_18 ?p_19 ?l_19 ?c_19 ?k_19 ?p_20 ?l_20 ?c_20 ?k_20 ?p_21 ?l_21 ?c_21 ?k_21 ?p_22 ?l_22 ?c_22 ?k_22 ?p_23 ?l_23 ?c_23 ?k_23 ?p_24 ?l_24 ?c_24 ?k_24 ?p_25 ?l_25 ?c_25 ?k_25 ?p_26 ?l_26 ?c_26 ?k_26 ?p_27 ?l_27 ?c_27 ?k_27 ?p_28 ?l_28 ?c_28 ?k_28 ?p_29 ?l_29 ?c_29 ?k_29 ?p_30 ?l_30 ?c_30 ?k_30 ?p_31 ?l_31 ?c_31 ?k_31 ?z_0 ?z_1 ?z_2 ?z_3 ?z_4 ?z_5 ?z_6 ?z_7 ?z_8 ?z_9 ?z_10 ?z_11 ?z_12 ?y_0 ?y_1 ?y_2
    (case p_0 => k_is)
    (case l_0 => k_is)
    (case c_0 => k_is)
    (case k_0 => k_is)
    (case p_1 => k_is)
    (case l_1 => k_is)
    (case c_1 => k_is)
    (case k_1 => k_is)
    (case p_2 => k_is)
    (case l_2 => k_is)
    (case c_2 => k_is)
    (case k_2 => k_is)
    (case p_3 => k_is)
    (case l_3 => k_is)
    (case c_3 => k_is)
    (case k_3 => k_is)
    (case p_4 => k_is)
    (case l_4 => k_is)
    (case c_4 => k_is)
    (case k_4 => k_is)
    (case p_5 => k_is)
    (case l_5 => k_is)
    (case c_5 => k_is)
    (case k_5 => k_is)
    (case p_6 => k_is)
    (case l_6 => k_is)
    (case c_6 => k_is)
    (case k_6 => k_is)
    (case p_7 => k_is)
    (case l_7 => k_is)
    (case c_7 => k_is)
    (case k_7 => k_is)
    (case p_8 => k_is)
    (case l_8 => k_is)
    (case c_8 => k_is)
    (case k_8 => k_is)
    (case p_9 => k_is)
    (case l_9 => k_is)
    (case c_9 => k_is)
    (case k_9 => k_is)
    (case p_10 => k_is)
    (case l_10 => k_is)
    (case c_10 => k_is)
    (case k_10 => k_is)
    (case p_11 => k_is)
    (case l_11 => k_is)
    (case c_11 => k_is)
    (case k_11 => k_is)
    (case p_12 => k_is)
    (case l_12 => k_is)
    (case c_12 => k_is)
    (case k_12 => k_is)
    (case p_13 => k_is)
    (case l_13 => k_is)
    (case c_13 => k_is)
    (case k_13 => k_is)
    (case p_14 => k_is)
    (case l_14 => k_is)
    (case c_14 => k_is)
    (case k_14 => k_is)
    (case p_15 => k_is)
    (case l_15 => k_is)
    (case c_15 => k_is)
    (case k_15 => k_is)
    (case p_16 => k_is)
    (case l_16 => k_is)
    (case c_16 => k_is)
    (case k_16 => k_is)
    (case p_17 => k_is)
    (case l_17 => k_is)
    (case c_17 => k_is)
    (case k_17 => k_is)
    (case p_18 => k_is)
    (case l_18 => k_is)
    (case c_18 => k_is)
    (case k_18 => k_is)
    (case p_19 => k_is)
    (case l_19 => k_is)
    (case c_19 => k_is)
    (case k_19 => k_is)
    (case p_20 => k_is)
    (case l_20 => k_is)
    (case c_20 => k_is)
    (case k_20 => k_is)
    (case p_21 => k_is)
    (case l_21 => k_is)
    (case c_21 => k_is)
    (case k_21 => k_is)
    (case p_22 => k_is)
    (case l_22 => k_is)
    (case c_22 => k_is)
    (case k_22 => k_is)
    (case p_23 => k_is)
    (case l_23 => k_is)
    (case c_23 => k_is)
    (case k_23 => k_is)
    (case p_24 => k_is)
    (case l_24 => k_is)
    (case c_24 => k_is)
    (case k_24 => k_is)
    (case p_25 => k_is)
    (case l_25 => k_is)
    (case c_25 => k_is)
    (case k_25 => k_is)
    (case p_26 => k_is)
    (case l_26 => k_is)
    (case c_26 => k_is)
    (case k_26 => k_is)
    (case p_27 => k_is)
    (case l_27 => k_is)
    (case c_27 => k_is)
    (case k_27 => k_is)
    (case p_28 => k_is)
    (case l_28 => k_is)
    (case c_28 => k_is)
    (case k_28 => k_is)
    (case p_29 => k_is)
    (case l_29 => k_is)
    (case c_29 => k_is)
    (case k_29 => k_is)
    (case p_30 => k_is)
    (case l_30 => k_is)
    (case c_30 => k_is)
    (case k_30 => k_is)
    (case p_31 => k_is)
    (case l_31 => k_is)
    (case c_31 => k_is)
    (case k_31 => k_is)
    (case z_0 => k_is)
    (case z_1 => k_is)
    (case z_2 => k_is)
    (case z_3 => k_is)
    (case z_4 => k_is)
    (case z_5 => k_is)
    (case z_6 => k_is)
    (case z_7 => k_is)
    (case z_8 => k_is)
    (case z_9 => k_is)
    (case z_10 => k_is)
    (case z_11 => k_is)
    (case z_12 => k_is)
    (case y_0 => k_is)
    (case y_1 => k_is)
    (case y_2 => k_is)
