/- Shards, in plain words: layer 13's mathematics. -/
import Derived.Test.YthgnecggdlamfaaGreatUf
import Derived.Test.YthgnecggdlamfaaGreatVg
namespace Go.Proofs.YthgnecggdlamfaaGreat

/-- A transaction that a shard knows of; one that is over; a shard; an order; an answer. -/
structure Sop where
  t : Tx
  fm : Bool
  wd : Bool
  puts : List Pu
structure Sdn where
  t : Tx
  cm : Bool
structure Sh where
  rows : List Ro
  holds : List Ho
  opn : List Sop
  done : List Sdn
  ver : Nat
structure Odr where
  kind : Int
  t : Tx
  key : ByteArray
  puts : List Pu
  cm : Bool
structure Ans where
  err : Nat
  val : ByteArray
  ver : Nat
  found : Bool
  cm : Bool
/-- The first of a transaction that is open; what became of one that is over. -/
def knoS (t : Tx) : List Sop → Option Sop
  | [] => none
  | x :: r => if x.t = t then some x else knoS t r
def ovrS (t : Tx) : List Sdn → Option Bool
  | [] => none
  | x :: r => if x.t = t then some x.cm else ovrS t r
/-- A key more, if it isn't there; how many keys there may be. -/
def memK (k : ByteArray) : List ByteArray → Bool
  | [] => false
  | x :: r => decide (x = k) || memK k r
def addK (l : List ByteArray) (k : ByteArray) : List ByteArray := if memK k l then l else l ++ [k]
def putK (P : List Pu) : List ByteArray := (P.filter fun p => !p.gone).map fun p => p.key
def opnK (O : List Sop) : List ByteArray := O.flatMap fun x => if x.fm then putK x.puts else []
def allK (s : Sh) (more : List Pu) : List ByteArray := s.rows.map (fun x => x.key) ++ opnK s.opn ++ putK more
def keysN (s : Sh) (more : List Pu) : Nat := ((allK s more).foldl addK []).length
/-- Whether puts are the same. -/
def samP (x y : Pu) : Bool := decide (x.key = y.key) && (decide (x.val = y.val) && x.gone == y.gone)
def samPs : List Pu → List Pu → Bool
  | [], [] => true
  | x :: r, y :: s => samP x y && samPs r s
  | _, _ => false
def ansE (e : Nat) : Ans := ⟨e, ⟨#[]⟩, 0, false, false⟩
def ansC (e : Nat) (c : Bool) : Ans := ⟨e, ⟨#[]⟩, 0, false, c⟩
def firmS (O : List Sop) : List Tx := (O.filter fun x => x.fm).map fun x => x.t
def wndS (out : List Tx) (O : List Sop) : List Sop := O.map fun x => ⟨x.t, x.fm, x.wd || amT x.t out, x.puts⟩
/-- ORead, OLock. -/
def asksS (s : Sh) (o : Odr) : Sh × Ans :=
  match ovrS o.t s.done with
  | some c => (s, ansC 13 c)
  | none =>
    if o.key.size < 1 ∨ 16 < o.key.size then (s, ansE 1)
    else if (knoS o.t s.opn).any (fun x => x.wd) then (s, ansE 12)
    else if (knoS o.t s.opn).any (fun x => x.fm) then (s, ansE 9)
    else if (knoS o.t s.opn).isNone ∧ 64 ≤ s.opn.length + s.done.length then (s, ansE 5)
    else if (askH s.holds o.t o.key (decide (o.kind = 2)) (firmS s.opn)).2.2 ≠ 0 then (s, ansE (askH s.holds o.t o.key (decide (o.kind = 2)) (firmS s.opn)).2.2)
    else (⟨s.rows, (askH s.holds o.t o.key (decide (o.kind = 2)) (firmS s.opn)).1, wndS (askH s.holds o.t o.key (decide (o.kind = 2)) (firmS s.opn)).2.1 s.opn ++ (if (knoS o.t s.opn).isNone then [⟨o.t, false, false, []⟩] else []), s.done, s.ver⟩,
      match getR o.key s.rows with
      | some x => ⟨0, x.val, x.ver, true, false⟩
      | none => ⟨0, ⟨#[]⟩, s.ver, false, false⟩)
/-- The first of a transaction prepared. -/
def prpS (t : Tx) (P : List Pu) : List Sop → List Sop
  | [] => []
  | x :: r => if x.t = t then ⟨x.t, true, x.wd, P⟩ :: r else x :: prpS t P r
/-- OPrepare. -/
def prepS (s : Sh) (o : Odr) : Sh × Ans :=
  match ovrS o.t s.done with
  | some c => (s, ansC 13 c)
  | none => match knoS o.t s.opn with
    | none => (s, ansE 7)
    | some x =>
      if x.wd then (s, ansE 12)
      else if x.fm then (if samPs x.puts o.puts then (s, ansE 0) else (s, ansE 9))
      else if fitsX o.puts ≠ 0 then (s, ansE (fitsX o.puts))
      else if o.puts.all (fun p => hasH o.t p.key true s.holds) = false then (s, ansE 9)
      else if 32 < keysN s o.puts then (s, ansE 5)
      else (⟨s.rows, s.holds, prpS o.t o.puts s.opn, s.done, s.ver⟩, ansE 0)
/-- A transaction released, and over. -/
def relS (rows : List Ro) (ver : Nat) (s : Sh) (o : Odr) : Sh := ⟨rows, dropH o.t s.holds, s.opn.filter (fun x => !decide (x.t = o.t)), s.done ++ [⟨o.t, o.cm⟩], ver⟩
/-- OFinish. -/
def finS (s : Sh) (o : Odr) : Sh × Ans :=
  match ovrS o.t s.done with
  | some c => (s, ansC (if c = o.cm then 0 else 13) c)
  | none => match knoS o.t s.opn with
    | none => if o.cm then (s, ansE 7) else if 64 ≤ s.opn.length + s.done.length then (s, ansE 5) else (relS s.rows s.ver s o, ansC 0 o.cm)
    | some x =>
      if o.cm = true ∧ x.fm = false then (s, ansE 9)
      else if o.cm = true ∧ 0 < x.puts.length then
        (if (allR s.rows x.puts ((s.ver + 1) % 18446744073709551616)).2 ≠ 0 then (s, ansE (allR s.rows x.puts ((s.ver + 1) % 18446744073709551616)).2)
        else (relS (allR s.rows x.puts ((s.ver + 1) % 18446744073709551616)).1 ((s.ver + 1) % 18446744073709551616) s o, ansC 0 o.cm))
      else (relS s.rows s.ver s o, ansC 0 o.cm)
/-- Do. -/
def doS (s : Sh) (o : Odr) : Sh × Ans :=
  if o.kind = 1 ∨ o.kind = 2 then asksS s o
  else if o.kind = 3 then prepS s o
  else if o.kind = 4 then finS s o
  else (s, ansE 1)
/-- Whether an open transaction is as it must be. -/
def opOk (s : Sh) (x : Sop) : Bool := (ovrS x.t s.done).isNone && (!(x.fm && x.wd) && ((x.fm || decide (x.puts.length = 0)) && (decide (fitsX x.puts = 0) && x.puts.all fun p => hasH x.t p.key true s.holds)))
def fstS : Nat → List Sop → List Sop → Bool
  | _, _, [] => true
  | i, p, x :: r => (p.all fun y => !decide (y.t = x.t)) && fstS (i + 1) (p ++ [x]) r
def fstD : List Sdn → List Sdn → Bool
  | _, [] => true
  | p, x :: r => (p.all fun y => !decide (y.t = x.t)) && fstD (p ++ [x]) r
/-- Whether a shard is right. -/
def rightS (s : Sh) : Bool :=
  rightB s.rows && (rightH s.holds && (decide (s.opn.length + s.done.length ≤ 64) && (decide (keysN s [] ≤ 32) &&
    (fstS 0 [] s.opn && (s.opn.all (opOk s) && (fstD [] s.done && s.holds.all fun h => (knoS h.t s.opn).any fun x => !x.wd))))))
end Go.Proofs.YthgnecggdlamfaaGreat
/- Layer 13's mathematics: keys that are counted; puts that have room. -/
namespace Go.Proofs.YthgnecggdlamfaaGreat

theorem memK_iff (k : ByteArray) : ∀ l, memK k l = true ↔ k ∈ l
  | [] => by simp [memK]
  | x :: r => by
    simp only [memK, Bool.or_eq_true, decide_eq_true_eq, memK_iff k r, List.mem_cons]
    exact ⟨fun h => h.imp Eq.symm id, fun h => h.imp Eq.symm id⟩
theorem addK_mem (l : List ByteArray) (k x : ByteArray) : x ∈ addK l k ↔ x ∈ l ∨ x = k := by
  unfold addK
  split
  · rename_i h
    have := (memK_iff k l).1 h
    exact ⟨.inl, fun h => h.elim id fun e => e ▸ this⟩
  · simp
theorem addK_nodup {l : List ByteArray} (h : l.Nodup) (k : ByteArray) : (addK l k).Nodup := by
  unfold addK
  split
  · exact h
  · rename_i hm
    have hn : k ∉ l := fun h => hm ((memK_iff k l).2 h)
    exact List.nodup_append.2 ⟨h, by simp, fun a ha b hb => by
      obtain rfl : b = k := by simpa using hb
      intro e; exact hn (e ▸ ha)⟩
theorem foldK_mem (x : ByteArray) : ∀ (l acc : List ByteArray), x ∈ l.foldl addK acc ↔ x ∈ acc ∨ x ∈ l
  | [], acc => by simp
  | k :: r, acc => by
    rw [List.foldl_cons, foldK_mem x r, addK_mem, List.mem_cons, or_assoc]
theorem foldK_nodup : ∀ (l acc : List ByteArray), acc.Nodup → (l.foldl addK acc).Nodup
  | [], _, h => h
  | k :: r, acc, h => by rw [List.foldl_cons]; exact foldK_nodup r _ (addK_nodup h k)
theorem len_sub : ∀ (A B : List ByteArray), A.Nodup → (∀ x ∈ A, x ∈ B) → A.length ≤ B.length
  | [], B, _, _ => Nat.zero_le _
  | x :: r, B, h, hs => by
    rw [List.nodup_cons] at h
    obtain ⟨s, t, rfl⟩ := List.append_of_mem (hs x (by simp))
    have := len_sub r (s ++ t) h.2 fun y hy => by
      have hne : y ≠ x := fun e => h.1 (e ▸ hy)
      have := hs y (by simp [hy])
      simp only [List.mem_append, List.mem_cons] at this ⊢
      rcases this with e | e | e
      · exact .inl e
      · exact absurd e hne
      · exact .inr e
    simp only [List.length_append, List.length_cons] at this ⊢; omega
/-- How many keys there are. -/
def dcK (l : List ByteArray) : Nat := (l.foldl addK []).length
theorem dcK_mono {l m : List ByteArray} (h : ∀ x ∈ l, x ∈ m) : dcK l ≤ dcK m :=
  len_sub _ _ (foldK_nodup l [] List.nodup_nil) fun x hx => by
    rw [foldK_mem] at hx ⊢
    exact .inr (h x (hx.resolve_left (by simp)))
theorem dcK_len {A l : List ByteArray} (hA : A.Nodup) (h : ∀ x ∈ A, x ∈ l) : A.length ≤ dcK l :=
  len_sub _ _ hA fun x hx => by rw [foldK_mem]; exact .inr (h x hx)
theorem keysN_dc (s : Sh) (more : List Pu) : keysN s more = dcK (allK s more) := rfl
/-- A right list's keys are different. -/
theorem srt_nodup {L : List Ro} (h : srt L) : (L.map fun x => x.key).Nodup := by
  unfold srt at h
  rw [List.Nodup, List.pairwise_map]
  exact h.imp fun hl e => lessB_ne hl e
/-- Each put may be done. -/
theorem fitF_ok : ∀ (Q P : List Pu), fitF P Q = true → ∀ p ∈ Q, putOk p = true
  | [], _, _ => by simp
  | x :: r, P, h => by
    simp only [fitF, Bool.and_eq_true] at h
    intro p hp
    rcases List.mem_cons.1 hp with e | e
    · rw [e]; exact h.1
    · exact fitF_ok r _ h.2.2 p e
theorem fits_one {P : List Pu} (h : fitsX P = 0) {p : Pu} (hp : p ∈ P) : fitsX [p] = 0 := by
  have hf : fitF [] P = true := by
    unfold fitsX at h
    split at h
    · cases h
    · rcases h4 : fitF [] P with _ | _
      · rw [h4] at h; simp at h
      · rfl
  have := fitF_ok P [] hf p hp
  unfold fitsX
  rw [if_neg (by simp), if_pos (by simp [fitF, keyIn, this])]
/-- Puts for which there is room are done. -/
theorem do_ok {M : List Ro} {p : Pu} {ver : Nat} {K : List ByteArray} (hM : rightB M = true) (hK : ∀ x ∈ M, x.key ∈ K) (hf : fitsX [p] = 0) (hp : p.gone = false → p.key ∈ K) (h32 : dcK K ≤ 32) :
    (doR M p ver).2 = 0 ∧ ∀ x ∈ (doR M p ver).1, x.key ∈ K := by
  unfold doR
  rw [if_neg (by omega)]
  rcases hg : p.gone with _ | _
  · simp only [Bool.false_eq_true, ↓reduceIte]
    by_cases hs : (getR p.key M).isSome
    · rw [if_pos hs]
      refine ⟨rfl, fun x hx => ?_⟩
      rcases mem_set hx with e | e
      · rw [e]; exact hp hg
      · exact hK x e
    · rw [if_neg hs]
      have hn := (getR_none_iff p.key M).1 (by simpa using hs)
      by_cases h : 32 ≤ M.length
      · have hnd := srt_nodup ((rightB_iff M).1 hM).2.2
        have hnd2 : (p.key :: M.map fun x => x.key).Nodup := List.nodup_cons.2 ⟨fun hm => by
          obtain ⟨x, hx, e⟩ := List.mem_map.1 hm
          exact hn x hx e, hnd⟩
        have := dcK_len hnd2 (l := K) fun y hy => by
          rcases List.mem_cons.1 hy with e | e
          · rw [e]; exact hp hg
          · obtain ⟨x, hx, e⟩ := List.mem_map.1 e
            rw [← e]; exact hK x hx
        simp only [List.length_cons, List.length_map] at this
        omega
      · rw [if_neg h]
        refine ⟨rfl, fun x hx => ?_⟩
        rcases mem_ins hx with e | e
        · rw [e]; exact hp hg
        · exact hK x e
  · simp only [↓reduceIte]
    exact ⟨trivial, fun x hx => hK x (mem_del hx)⟩
theorem seq_ok {ver : Nat} (hv : ver ≤ 4611686018427387903) {K : List ByteArray} (h32 : dcK K ≤ 32) : ∀ (Q : List Pu) (M : List Ro), rightB M = true → (∀ x ∈ M, x.key ∈ K) → (∀ p ∈ Q, fitsX [p] = 0 ∧ (p.gone = false → p.key ∈ K)) →
    (seqR ver M Q).2 = 0 ∧ rightB (seqR ver M Q).1 = true ∧ ∀ x ∈ (seqR ver M Q).1, x.key ∈ K
  | [], M, hM, hK, _ => ⟨rfl, hM, hK⟩
  | p :: r, M, hM, hK, hQ => by
    obtain ⟨h1, h2⟩ := do_ok (ver := ver) hM hK (hQ p (by simp)).1 (hQ p (by simp)).2 h32
    have h3 := (doR_right hM hv h1).1
    simp only [seqR, if_pos h1]
    exact seq_ok hv h32 r _ h3 h2 fun q hq => hQ q (by simp [hq])
theorem all_ok {L : List Ro} {P : List Pu} {ver : Nat} (hL : rightB L = true) (hv : ver ≤ 4611686018427387903) (hf : fitsX P = 0) (h32 : dcK (L.map (fun x => x.key) ++ putK P) ≤ 32) :
    (allR L P ver).2 = 0 ∧ ∀ x ∈ (allR L P ver).1, x.key ∈ L.map (fun x => x.key) ++ putK P := by
  have hP : ∀ p ∈ P, fitsX [p] = 0 ∧ (p.gone = false → p.key ∈ L.map (fun x => x.key) ++ putK P) := fun p hp => ⟨fits_one hf hp, fun hg => by
    refine List.mem_append.2 (.inr (List.mem_map.2 ⟨p, List.mem_filter.2 ⟨hp, by simp [hg]⟩, rfl⟩))⟩
  have h1 := seq_ok hv h32 (P.filter fun p => p.gone) L hL (fun x hx => List.mem_append.2 (.inl (List.mem_map.2 ⟨x, hx, rfl⟩))) fun p hp => hP p (List.mem_filter.1 hp).1
  have h2 := seq_ok hv h32 (P.filter fun p => !p.gone) _ h1.2.1 h1.2.2 fun p hp => hP p (List.mem_filter.1 hp).1
  unfold allR
  rw [if_neg (by omega), if_pos h1.1]
  exact ⟨h2.1, h2.2.2⟩
end Go.Proofs.YthgnecggdlamfaaGreat
